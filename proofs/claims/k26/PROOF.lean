import PyProof.Rows.All
import Wide.All
import OpenK.AllK
import Wide.FinOn
import Lean
import PyProof.EqAt
import PyProof.EqKinds
import PyProof.TupleCall
import PyProof.NeKinds
import PyProof.ListMulRoad
import PyProof.TupleOps
import PyProof.FactsAll.tuple_2
import PyProof.Rows.SeqMore
import KE.KRevSl
import KE.KRevIter
import KE.KIntText
import PyProof.Rows.RuleB_lshift
import PyProof.Rows.StrJoin2
import PyProof.Rows.StrNews2
import PyProof.Rows.FStr
import PyProof.Rows.StrFromFirst
import PyProof.Rows.StrLawsPart
import PyProof.Rows.RegReprOcc
import PyProof.Rows.SetFrom
import PyProof.AutoSeq1
import OpenK.KRaise
import PyProof.Rows.Own
import OpenK.KOwn
import PyProof.ExcBaseAll.ValueError
import KE.KIsAll
import PyProof.ExcInit
import PyProof.ExcClass2
import OpenK.KCls
import OpenK.KWalk
import PySem.Challenge.RW_tierstore_k26_whole_runs
set_option Elab.async false
set_option linter.all false
set_option maxRecDepth 100000
namespace L2
open PySem PySem.Spec PyProof.Rows
variable {us:List Value} {x:Str} {u:Value} {a b f dx C:Addr} {P:Program} {w:World} {h h' base:Heap} {e c tg:Expr} {pins:List (Addr × Obj)} {s s':Shared} {t' i j k:Nat} {ch fp:List Addr} {M:Model} {A:Around} {pos p:Pos} {K:W.Frag} {op:CmpOp} {es:List Expr} {mg:Str->Option Value} {fd:FuncData} {ps:List Str} {kindOf:Str->Option NameKind}
abbrev Key:=Sum Int Str
def qI:Key->Value->Bool
 | .inl k,v=>Value.isInt k v
 | .inr x,v=>Value.isStrOf x v
def SU (w:World):Key->Int
 | .inl k=>hashInt k
 | .inr x=>hashStr w x
theorem cm:∀ {k:Key} {v:Value},qI k v = true->(∃ i t,k = Sum.inl i/\v = Value.int i t) \/ (∃ x t,k = Sum.inr x/\v = Value.str x t)
 | .inl i,v,h=>by
  obtain ⟨t,e⟩:=Value.isInt_shape (k:=i) (v:=v) h;exact .inl ⟨i,t,rfl,e⟩
 | .inr x,v,h=>by
  obtain ⟨t,e⟩:=Value.isStrOf_shape (x:=x) (v:=v) h;exact .inr ⟨x,t,rfl,e⟩
theorem zM (i:Int) (t:Tok):qI (.inl i) (.int i t) = true:=by simp [qI,Value.isInt]
theorem zL (x:Str) (t:Tok):qI (.inr x) (.str x t) = true:=by simp [qI,Value.isStrOf]
theorem Jl (a b:Int):decide ((Sum.inl a:Key) = Sum.inl b) = (a == b):=by
 by_cases e:a = b
 ·subst e;simp
 ·have h:¬ (Sum.inl a:Key) = Sum.inl b:=fun q=>e (Sum.inl.inj q)
  rw [decide_eq_false h];exact (beq_eq_false_iff_ne.mpr e).symm
theorem Ji (a b:Str):decide ((Sum.inr a:Key) = Sum.inr b) = decide (a = b):=by
 by_cases e:a = b
 ·subst e;simp
 ·have h:¬ (Sum.inr a:Key) = Sum.inr b:=fun q=>e (Sum.inr.inj q)
  rw [decide_eq_false h,decide_eq_false e]
theorem Jk (a:Int) (b:Str):decide ((Sum.inl a:Key) = Sum.inr b) = false:=decide_eq_false (fun q=>nomatch q)
theorem Jj (a:Str) (b:Int):decide ((Sum.inr a:Key) = Sum.inl b) = false:=decide_eq_false (fun q=>nomatch q)
def cQ (prog:Program) (w:World):PySem.KeyKind prog w Key where
 is:=qI
 hash:=SU w
 inj:=fun v a b ha hb=>by
  rcases cm ha with ⟨i,t,rfl,rfl⟩ | ⟨x,t,rfl,rfl⟩
  ·rcases cm hb with ⟨j,u,rfl,e⟩ | ⟨y,u,rfl,e⟩
   ·injection e with e1 _;rw [e1]
   ·exact nomatch e
  ·rcases cm hb with ⟨j,u,rfl,e⟩ | ⟨y,u,rfl,e⟩
   ·exact nomatch e
   ·injection e with e1 _;rw [e1]
 byValue:=fun k v h=>by
  rcases cm h with ⟨i,t,rfl,rfl⟩ | ⟨x,t,rfl,rfl⟩ <;> rfl
 pyHash:=fun hv h=>by
  rcases cm hv with ⟨i,t,rfl,rfl⟩ | ⟨x,t,rfl,rfl⟩
  ·exact wpAny_pyHash_int h
  ·exact wpAny_pyHash_str h
 eqBool:=fun hu hv h=>by
  rcases cm hu with ⟨i,t,rfl,rfl⟩ | ⟨x,t,rfl,rfl⟩
  ·rcases cm hv with ⟨j,u,rfl,rfl⟩ | ⟨y,u,rfl,rfl⟩
   ·rw [Jl] at h;exact wpAny_eqBool_int h
   ·rw [Jk] at h;exact SeqAt.EqAt.int_str i t y u _ _ _ _ h
  ·rcases cm hv with ⟨j,u,rfl,rfl⟩ | ⟨y,u,rfl,rfl⟩
   ·rw [Jj] at h;exact SeqAt.EqAt.str_int x t j u _ _ _ _ h
   ·rw [Ji] at h;exact wpAny_eqBool_str h
 «strs»:=fun k x t v h=>by
  rcases cm h with ⟨i,u,rfl,e⟩ | ⟨y,u,rfl,e⟩
  ·exact nomatch e
  ·injection e with e1 _
   subst e1
   cases v <;> rfl
theorem uU (prog:Program) (w:World) (i:Int) (t:Tok):(cQ prog w).is (.inl i) (.int i t) = true:=zM i t
theorem uT (prog:Program) (w:World) (x:Str) (t:Tok):(cQ prog w).is (.inr x) (.str x t) = true:=zL x t
inductive V where
 | non | bl (b:Bool) | int (i:Int) | str (x:Str) | byt (b:Array UInt8) | flt (b:UInt64) | ref (a:Addr) | ty (n:String)
 deriving DecidableEq
variable {xs:List V} {v:V}
def RelV:V->Value->Prop
 | .non,u=>u = Value.none
 | .bl b,u=>u = Value.bool b
 | .int i,u=>∃ t,u = Value.int i t
 | .str x,u=>∃ t,u = Value.str x t
 | .byt b,u=>∃ t,u = Value.bytes b t
 | .flt b,u=>∃ t,u = Value.float b t
 | .ref a,u=>u = Value.ref a
 | .ty n,u=>u = Value.type n
abbrev Vals:List V->List Value->Prop:=Paired RelV
theorem Vals.length (r:Vals xs us):xs.length = us.length:=Paired.length r
theorem Vals.get:∀ {xs:List V} {us:List Value} {i:Nat} {x:V},Vals xs us->xs[i]? = some x->∃ u,us[i]? = some u/\RelV x u
 | _,_,_,_,.nil,e=>by simp at e
 | _,_,0,_,.cons r _,e=>by simp at e;subst e;exact ⟨_,rfl,r⟩
 | _,_,i + 1,x,.cons _ t,e=>by
  obtain ⟨u,h1,h2⟩:=Vals.get (i:=i) (x:=x) t (by simpa using e);exact ⟨u,by simpa using h1,h2⟩
theorem Vals.set {x:V} {u:Value} (r:RelV x u):∀ {xs:List V} {us:List Value} (i:Nat),Vals xs us->Vals (xs.set i x) (us.set i u)
 | _,_,_,.nil=>.nil
 | _,_,0,.cons _ t=>.cons r t
 | _,_,i + 1,.cons q t=>.cons q (Vals.set r i t)
theorem Vals.append:∀ {xs ys:List V} {us ws:List Value},Vals xs us->Vals ys ws->Vals (xs ++ ys) (us ++ ws)
 | _,_,_,_,.nil,s=>s
 | _,_,_,_,.cons r t,s=>.cons r (Vals.append t s)
theorem Vals.take:∀ {xs:List V} {us:List Value} (n:Nat),Vals xs us->Vals (xs.take n) (us.take n)
 | _,_,0,_=>.nil
 | _,_,_ + 1,.nil=>.nil
 | _,_,n + 1,.cons r t=>.cons r (Vals.take n t)
theorem Vals.drop:∀ {xs:List V} {us:List Value} (n:Nat),Vals xs us->Vals (xs.drop n) (us.drop n)
 | _,_,0,r=>r
 | _,_,_ + 1,.nil=>.nil
 | _,_,n + 1,.cons _ t=>Vals.drop n t
def RelO:Option V->Option Value->Prop
 | some v,some u=>RelV v u
 | none,none=>True
 | _,_=>False
def KV {κ:Type}:List (κ × V)->List (κ × Value)->Prop:=Paired fun (p:κ × V) (q:κ × Value)=>p.1 = q.1/\RelV p.2 q.2
def kV:Key->V
 | .inl i=>.int i
 | .inr x=>.str x
inductive HO where
 | lst (xs:List V)
 | tup (xs:List V)
 | dK (aF:List (Key × V)) | dT (aF:List (List Key × V))
 | set (S:Int->Bool) (n:Nat)
 | ins (C dx:Addr) (fs:List (Str × V))
 | own (x:Addr)
 | xd (fs:List (Str × V))
 | met (f x:Addr)
 | rng (lo hi:Int)
 | frz (o:Obj) (u:HO)
 | tbl (ps:Array Value)
 | ext (φ:Heap->Prop)
variable {o:HO}
abbrev Hp:=Addr->Option HO
variable {H H':Hp}
def upd (H:Hp) (a:Addr) (o:HO):Hp:=fun b=>if b = a then some o else H b
theorem aE:upd H a o a = some o:=by unfold upd;rw [if_pos rfl]
theorem aD (h:b ≠ a):upd H a o b = H b:=by unfold upd;rw [if_neg h]
theorem Lr {u:HO} (h:H a = some o) (h':H b = some u) (d:o ≠ u):a ≠ b:=by
 intro e;subst e;rw [h] at h';exact d (Option.some.inj h')
theorem df (h:H a = some o) (h':H b = none):a ≠ b:=by
 intro e;subst e;rw [h] at h';cases h'
section
variable (P:Program) (w:World)
def ObjOk (H:Hp) (h:Heap) (a:Addr):HO->Prop
 | .lst xs=>xs.length <= sizeLine/\∃ (its:List Value) (n:Nat),Vals xs its/\h.get? a = some { cls:=.type "list",data:=.seq its.toArray n }
 | .tup xs=>xs.length <= sizeLine/\∃ its:List Value,Vals xs its/\IsTup h a its.toArray
 | .dK aF=>aF.length <= sizeLine/\(a == sysModules) = false/\∃ vs,KV aF vs/\h.DictOf (cQ P w) a vs
 | .dT aF => aF.length <= sizeLine /\ (a == sysModules) = false /\ ∃ xs : List (List Key × Addr × Value),
     Paired (fun (p:List Key × V) (q:List Key × Addr × Value)=>p.1 = q.1/\H q.2.1 = some (.tup (p.1.map kV))/\RelV p.2 q.2.2) aF xs /\
     ∃ o es ep,h.get? a = some o/\o.ExactDict/\o.data = .dict es ep/\es.toList = xs.map (entryOfKey (tupleKind (cQ P w)))/\(xs.map (·.1)).Nodup
 | .set S n=>h.SetOf (intKind P w) a S n
 | .ins C dx fs => H dx = some (.own a) /\ fs.length <= 1000 /\ dx ≠ a /\ h.get? a = some (W.instObj C dx) /\
     ∃ mA,h.Ns1 dx mA/\(∀ f,RelO (fs.lookup f) (mA f))/\PySem.Within mA (fs.map (·.1))
 | .own _=>∃ o,h.get? a = some o
 | .xd fs=>∃ mA,h.Ns1 a mA/\∀ f,RelO (fs.lookup f) (mA f)
 | .rng lo hi=>∃ t u v,h.get? a = some { cls:=.type "range",data:=.fields #[.int lo t,.int hi u,.int 1 v] }
 | .frz o u=>h.get? a = some o/\ObjOk H h a u
 | .tbl ps=>h.get? a = some { cls:=.none,data:=.fields ps }
 | .met f x=>h.get? a = some (W.methodObj (.ref f) (.ref x))
 | .ext φ=>φ h/\(∃ o,h.get? a = some o)/\∀ h1 h2:Heap,φ h1->(∀ o,h1.get? a = some o->h2.get? a = some o)->φ h2
def HOk (H:Hp) (h:Heap):Prop:=∀ a o,H a = some o->ObjOk P w H h a o
end
section
theorem ObjOk.lt (x:ObjOk P w H h a o):a < h.objs.size:=by
 cases o with
 | lst xs=>obtain ⟨_,_,_,_,e⟩:=x;exact Heap.lt_size e
 | tup xs=>obtain ⟨_,_,_,p⟩:=x;exact p.lt
 | dK aF=>obtain ⟨_,_,_,_,o,_,_,e,_⟩:=x;exact Heap.lt_size e
 | dT aF=>obtain ⟨_,_,_,_,o,_,_,e,_⟩:=x;exact Heap.lt_size e
 | set S n=>obtain ⟨o,_,_,_,e,_⟩:=x;exact Heap.lt_size e
 | ins C dx fs=>obtain ⟨_,_,_,e,_⟩:=x;exact Heap.lt_size e
 | own y=>obtain ⟨_,e⟩:=x;exact Heap.lt_size e
 | xd fs=>obtain ⟨_,⟨_,_,_,e,_⟩,_⟩:=x;exact Heap.lt_size e
 | rng lo hi=>obtain ⟨_,_,_,e⟩:=x;exact Heap.lt_size e
 | frz ob u=>obtain ⟨e,_⟩:=x;exact Heap.lt_size e
 | tbl ps=>exact Heap.lt_size (show h.get? a = some _ from x)
 | met f y=>exact Heap.lt_size (show h.get? a = some _ from x)
 | ext φ=>obtain ⟨_,⟨_,e⟩,_⟩:=x;exact Heap.lt_size e
theorem Paired.mapP {α β:Type} {F G:α->β->Prop}:∀ {l₁:List α} {l₂:List β},Paired F l₁ l₂->(∀ a b,F a b->G a b)->Paired G l₁ l₂
 | _,_,.nil,_=>.nil
 | _,_,.cons r t,f=>.cons (f _ _ r) (Paired.mapP t f)
theorem ObjOk.stay (x : ObjOk P w H h a o) (k : ∀ b u, (b = a \/ H b = some (.own a)) -> h.get? b = some u -> h'.get? b = some u)
    (ho:∀ b,H b = some (.own a)->H' b = some (.own a)) (ht:∀ b xs,H b = some (.tup xs)->H' b = some (.tup xs)):ObjOk P w H' h' a o:=by
 induction o with
 | lst xs=>obtain ⟨z,its,n,r,e⟩:=x;exact ⟨z,its,n,r,k _ _ (.inl rfl) e⟩
 | tup xs=>obtain ⟨z,its,r,ob,e,c⟩:=x;exact ⟨z,its,r,ob,k _ _ (.inl rfl) e,c⟩
 | dK aF=>obtain ⟨z,y,vs,r,ob,es,ep,e,c⟩:=x;exact ⟨z,y,vs,r,ob,es,ep,k _ _ (.inl rfl) e,c⟩
 | dT aF =>
  obtain ⟨z,y,xs,r,ob,es,ep,e,c⟩:=x;exact ⟨z,y,xs,Paired.mapP r fun p q z=>⟨z.1,ht _ _ z.2.1,z.2.2⟩,ob,es,ep,k _ _ (.inl rfl) e,c⟩
 | set S n=>obtain ⟨ob,es,ep,t,e,c⟩:=x;exact ⟨ob,es,ep,t,k _ _ (.inl rfl) e,c⟩
 | ins C dx fs =>
  obtain ⟨d,z,ne,e,mA,⟨od,es,ep,e2,c⟩,r⟩:=x;exact ⟨ho _ d,z,ne,k _ _ (.inl rfl) e,mA,⟨od,es,ep,k _ _ (.inr d) e2,c⟩,r⟩
 | own y=>obtain ⟨ob,e⟩:=x;exact ⟨ob,k _ _ (.inl rfl) e⟩
 | xd fs=>obtain ⟨mA,⟨od,es,ep,e,c⟩,r⟩:=x;exact ⟨mA,⟨od,es,ep,k _ _ (.inl rfl) e,c⟩,r⟩
 | rng lo hi=>obtain ⟨t,u,v,e⟩:=x;exact ⟨t,u,v,k _ _ (.inl rfl) e⟩
 | frz ob u ih=>obtain ⟨e,q⟩:=x;exact ⟨k _ _ (.inl rfl) e,ih q⟩
 | tbl ps =>
  have e:h.get? a = some { cls:=.none,data:=.fields ps }:=x;show h'.get? a = some { cls:=.none,data:=.fields ps };exact k a _ (.inl rfl) e
 | met f y =>
  have e:h.get? a = some (W.methodObj (.ref f) (.ref y)):=x;show h'.get? a = some (W.methodObj (.ref f) (.ref y));exact k a _ (.inl rfl) e
 | ext φ=>obtain ⟨p,⟨o,e⟩,st⟩:=x;exact ⟨st _ _ p fun o q=>k _ _ (.inl rfl) q,⟨o,k _ _ (.inl rfl) e⟩,st⟩
theorem HOk.lt (x:HOk P w H h) (e:H a = some o):a < h.objs.size:=(x a o e).lt
theorem HOk.fresh (x:HOk P w H h) (e:h.objs.size <= a):H a = none:=by
 cases q:H a with
 | none=>rfl
 | some u=>exact absurd (Nat.lt_of_lt_of_le (x.lt q) e) (Nat.lt_irrefl _)
theorem HOk.kept (x:HOk P w H h) (k:∀ b u,h.get? b = some u->h'.get? b = some u):HOk P w H h':=fun a o e =>
 (x a o e).stay (fun b u _ q=>k b u q) (fun _ q=>q) fun _ _ q=>q
theorem HOk.laid (x:HOk P w H h) (k:∀ b u,h.get? b = some u->h'.get? b = some u) (hp:h.objs.size <= a) (new:ObjOk P w (upd H a o) h' a o):HOk P w (upd H a o) h':=fun b u e=>by
 have hn:=x.fresh hp
 by_cases hb:b = a
 ·subst hb;rw [aE] at e;cases e;exact new
 ·rw [aD hb] at e;exact (x b u e).stay (fun c v _ q=>k c v q) (fun c q=>by rw [aD (df q hn)];exact q) fun c xs q=>by rw [aD (df q hn)];exact q
end
def Rd (H:Hp) (a:Addr) (u:HO):Prop:=H a = some u \/ ∃ o,H a = some (.frz o u)
theorem Rd.ok {u:HO} (r:Rd H a u) (x:HOk P w H h):ObjOk P w H h a u:=by
 rcases r with r | ⟨o,r⟩
 ·exact x a u r
 ·obtain ⟨_,q⟩:=x a _ r;exact q
def Nz:Option HO->Prop
 | some (.lst _)=>True
 | some (.dK _)=>True
 | some (.dT _)=>True
 | some (.set _ _)=>True
 | some (.ins _ _ _)=>True
 | some (.ext _)=>True
 | _=>False
section
variable {x e:Addr} {o':HO}
theorem HOk.write (ok : HOk P w H h) (mu : Nz (H x)) (he : e = x \/ H e = some (.own x)) (k : ∀ b u, b ≠ e -> h.get? b = some u -> h'.get? b = some u) (Kp : ∃ u, h'.get? e = some u)
    (new:ObjOk P w (upd H x o') h' x o'):HOk P w (upd H x o') h':=fun b u q=>by
 have Lq:∀ c y,H c = some (.own y)->c ≠ x:=fun c y r z=>by subst z;rw [r] at mu;exact mu
 have SF:∀ c xs,H c = some (.tup xs)->c ≠ x:=fun c xs r z=>by subst z;rw [r] at mu;exact mu
 by_cases hb:b = x
 ·subst hb;rw [aE] at q;cases q;exact new
 ·rw [aD hb] at q
  by_cases Fu:b = e
  ·have q':H b = some (.own x):=by
    rcases he with z | z
    ·exact absurd (Fu.trans z) hb
    ·rw [Fu];exact z
   rw [q] at q';cases q';obtain ⟨v,hv⟩:=Kp;exact ⟨v,by rw [Fu];exact hv⟩
  ·refine (ok b u q).stay (fun c v hc r=>k c v ?_ r) (fun c r=>by rw [aD (Lq c b r)];exact r) fun c xs r=>by rw [aD (SF c xs r)];exact r
   rcases hc with rfl | hc
   ·exact Fu
   ·rintro rfl
    rcases he with z | z
    ·exact Lq c b hc z
    ·rw [hc] at z;cases z;exact hb rfl
end
structure Un (fs ex:List Addr) (H H':Hp) (h h':Heap):Prop where
 keep:∀ b o,h.get? b = some o->H b = none->b ∉ fs->b ∉ ex->h'.get? b = some o
 slot:∀ b o,h.get? b = some o->H b = none->b ∈ fs->b ∉ ex->∃ sl,h'.get? b = some { o with slots:=sl }
 free:∀ b o,h.get? b = some o->H b = none->b ∉ ex->H' b = none
 there:∀ b o,h.get? b = some o->b ∉ ex->∃ o',h'.get? b = some o'
 tups:∀ b xs,H b = some (.tup xs)->H' b = some (.tup xs)
 frzs:∀ b o u,H b = some (.frz o u)->H' b = some (.frz o u)
 tbls:∀ b ps,H b = some (.tbl ps)->∃ more,H' b = some (.tbl (ps ++ more))
section
variable {fs UZ ex ZI:List Addr} {H1 H2:Hp} {h1 h2:Heap} {x e:Addr}
theorem Un.any (u:Un fs ex H H1 h h1) {ob:Obj} (q:h.get? b = some ob) (n:H b = none) (hx:b ∉ ex):∃ sl,h1.get? b = some { ob with slots:=sl }:=by
 by_cases hb:b ∈ fs
 ·exact u.slot b ob q n hb hx
 ·exact ⟨ob.slots,u.keep b ob q n hb hx⟩
theorem Un.trans (a:Un fs ex H H1 h h1) (b:Un fs ex H1 H2 h1 h2):Un fs ex H H2 h h2 where
 keep:=fun c ob q n hc hx=>b.keep c ob (a.keep c ob q n hc hx) (a.free c ob q n hx) hc hx
 slot:=fun c ob q n hc hx=>by
  obtain ⟨sl,e1⟩:=a.slot c ob q n hc hx;obtain ⟨Pt,e2⟩:=b.slot c _ e1 (a.free c ob q n hx) hc hx;exact ⟨Pt,e2⟩
 free:=fun c ob q n hx=>by
  obtain ⟨o',e1⟩:=a.there c ob q hx;exact b.free c o' e1 (a.free c ob q n hx) hx
 there:=fun c ob q hx=>by
  obtain ⟨o',e1⟩:=a.there c ob q hx;exact b.there c o' e1 hx
 tups:=fun c xs q=>b.tups c xs (a.tups c xs q)
 frzs:=fun c ob xs q=>b.frzs c ob xs (a.frzs c ob xs q)
 tbls:=fun c ps q=>by
  obtain ⟨m1,e1⟩:=a.tbls c ps q;obtain ⟨m2,e2⟩:=b.tbls c _ e1;exact ⟨m1 ++ m2,by rw [e2,Array.append_assoc]⟩
theorem Un.kept (k:∀ b u,h.get? b = some u->h'.get? b = some u):Un fs ex H H h h' :=
 ⟨fun b ob q _ _ _=>k b ob q,fun b ob q _ _ _=>⟨ob.slots,k b ob q⟩,fun _ _ _ n _=>n,fun b ob q _=>⟨ob,k b ob q⟩,fun _ _ q=>q,fun _ _ _ q=>q,fun _ ps q=>⟨#[],by rw [q];simp⟩⟩
theorem Un.refl:Un fs ex H H h h:=Un.kept fun _ _ q=>q
theorem Un.laid (k:∀ b u,h.get? b = some u->h'.get? b = some u) (hp:h.objs.size <= a) (hn:H a = none):Un fs ex H (upd H a o) h h' where
 keep:=fun b u q _ _ _=>k b u q
 slot:=fun b u q _ _ _=>⟨u.slots,k b u q⟩
 free:=fun b u q n _=>by rw [aD (Nat.ne_of_lt (Nat.lt_of_lt_of_le (Heap.lt_size q) hp))];exact n
 there:=fun b u q _=>⟨u,k b u q⟩
 tups:=fun b xs q=>by rw [aD (df q hn)];exact q
 frzs:=fun b u xs q=>by rw [aD (df q hn)];exact q
 tbls:=fun b ps q=>⟨#[],by rw [aD (df q hn),q];simp⟩
theorem Un.write (mu:Nz (H x)) (he:e = x \/ H e = some (.own x)) (k:∀ b u,b ≠ e->h.get? b = some u->h'.get? b = some u) (Kp:∃ u,h'.get? e = some u):Un fs ex H (upd H x o) h h':=by
 have hx:∀ b,H b = none->b ≠ x:=fun b n z=>by subst z;rw [n] at mu;exact mu
 have hb:∀ b,H b = none->b ≠ e:=fun b n z=>by
  subst z
  rcases he with r | r
  ·exact hx b n r
  ·rw [n] at r;cases r
 have hm:∀ b u,H b = some u->¬ Nz (some u)->b ≠ x:=fun b u q nm z=>by subst z;rw [q] at mu;exact nm mu
 refine ⟨fun b u q n _ _=>k b u (hb b n) q,fun b u q n _ _=>⟨u.slots,k b u (hb b n) q⟩,fun b u q n _=>by rw [aD (hx b n)];exact n,fun b u q _=>?_,
  fun b xs q=>by rw [aD (hm b _ q fun z=>z)];exact q,fun b u xs q=>by rw [aD (hm b _ q fun z=>z)];exact q,fun b ps q=>⟨#[],by rw [aD (hm b _ q fun z=>z),q];simp⟩⟩
 by_cases Fu:b = e
 ·subst Fu;exact Kp
 ·exact ⟨u,k b u Fu q⟩
theorem Un.mono (u:Un fs ex H H1 h h1) (hs:∀ b ∈ fs,b ∈ UZ) (hx:∀ b ∈ ex,b ∈ ZI):Un UZ ZI H H1 h h1 :=
 ⟨fun b ob q n hb he=>u.keep b ob q n (fun z=>hb (hs b z)) fun z=>he (hx b z),fun _ _ q n _ he=>u.any q n fun z=>he (hx _ z),fun b ob q n he=>u.free b ob q n fun z=>he (hx b z),fun b ob q he=>u.there b ob q fun z=>he (hx b z),u.tups,u.frzs,u.tbls⟩
end
def NG (h:Heap) (H:Hp):List Addr:=(List.range h.objs.size).filter fun a=>(H a).isSome
def pZ (h:Heap) (H:Hp):Heap:=W.hideAll h (NG h H)
theorem zR (h:Heap) (H:Hp):(pZ h H).objs.size = h.objs.size:=W.hideAll_size _ _
theorem CQ {o:Obj} (e:h.get? b = some o) (n:H b = none):(pZ h H).get? b = some o :=
 W.hideAll_get _ e fun hm=>by
  have q:(H b).isSome = true:=(List.mem_filter.mp hm).2;rw [n] at q;simp at q
theorem EZ {o:Obj} (e:(pZ h H).get? b = some o):h.get? b = some o/\H b = none:=by
 have e':h.get? b = some o:=W.of_hideAll (NG h H) e;refine ⟨e',?_⟩
 cases q:H b with
 | none=>rfl
 | some x =>
  have hm:b ∈ NG h H:=List.mem_filter.mpr ⟨List.mem_range.mpr (Heap.lt_size e'),by simp [q]⟩;have z:(pZ h H).get? b = none:=W.hideAll_none (NG h H) hm;rw [z] at e;cases e
def FP (g h:Heap) (L:Addr):List (Addr × Obj):=(List.range h.objs.size).filterMap fun a=>if a = L \/ (g.get? a).isSome = true then none else (h.get? a).map fun o=>(a,o)
def rest (g h:Heap) (L d:Addr):List (Addr × Obj):=(FP g h L).filter fun p=>decide (p.1 ≠ d)
structure Mod (K:W.Frag) (mg:Str->Option Value) (base:Heap):Prop where
 kin:K.In base
 glob:base.Ns mainGlobals mg
 blt:∃ mb,base.Ns builtinsNs mb/\∀ x:Str,x ≠ "__name__"->mb x = bootBuiltins x
 nolimit:base.NoLimit
structure Cx where
 prog:Program
 w:World
 K:W.Frag
 mg:Str->Option Value
 base:Heap
 A:Around
 N:List Str
 s₀:Shared
 H₀:Hp
 env:Env
 outer:List Env
 stack:List Env
 ex:List Addr
 fn:Str->Bool
 calm:Bool
 pn:List (Addr × Obj)
 xe:Value->Shared->Prop
variable {X:Cx}
def tE (l:List Env):List Addr:=l.filterMap (·.frame)
abbrev Cx.fs (X:Cx):List Addr:=tE X.outer
def Oc (sc:Scope) (x:Str):Prop:=sc.names.lookup x = some .local \/ sc.names.lookup x = some .cell \/ sc.names.lookup x = some .free
def Loc (sc:Scope) (x:Str):Prop:=sc.names.lookup x = some .local \/ sc.names.lookup x = some .cell
def Look (env:Env) (h:Heap) (m:Str->Option Value) (x:Str) (u:Value):Prop :=
 (env.kindOf x = some .local/\m x = some u) \/ ((env.kindOf x = some .cell \/ env.kindOf x = some .free)/\∃ c,env.cells.lookup x = some c/\h.IsCell c (some u))
structure Cx.Ok (X:Cx):Prop where
 mod:Mod X.K X.mg X.base
 kind:X.env.scope.kind = .function
 glob:X.env.globals = mainGlobals
 blt:X.env.builtins = builtinsNs
 above:X.s₀.heap.objs.size <= X.env.locals
 inj:∀ x y c,X.env.cells.lookup x = some c->X.env.cells.lookup y = some c->x = y
 has:∀ x,(X.env.kindOf x = some .cell \/ X.env.kindOf x = some .free)->∃ c,X.env.cells.lookup x = some c
 cab:∀ x c,X.fn x = true->X.env.cells.lookup x = some c->X.s₀.heap.objs.size <= c
 hd:X.calm = true->X.A.handled = none
 frames:X.A.frames = some X.stack
 stk:X.stack = X.outer \/ (X.stack = X.env :: X.outer/\X.env.frame = some X.env.locals)
 exf:∀ b ∈ X.ex,b ≠ X.env.locals/\∀ x c,X.env.cells.lookup x = some c->c ≠ b
 bs:∀ b o,X.base.get? b = some o->X.s₀.heap.get? b = some o/\X.H₀ b = none
 bsz:X.base.objs.size <= X.s₀.heap.objs.size
 noex:∀ b o,X.base.get? b = some o->b ∉ X.ex
 exfs:∀ b ∈ X.ex,b ∉ X.fs
 funs:X.s₀.heap.FunFrames X.base X.outer
 frf:∀ b ∈ X.fs,X.H₀ b = none
structure Inv (X:Cx) (pins:List (Addr × Obj)) (σ:List (Option V)) (H:Hp) (s:Shared):Prop where
 ok:X.Ok
 os:s.os = X.s₀.os
 bare:AllBare s.gens
 base:Un X.fs X.ex X.H₀ H X.s₀.heap s.heap
 loc:∃ m,s.heap.Ns X.env.locals m/\∀ (i:Nat) (x:Str) (v:V),X.N[i]? = some x->σ[i]? = some (some v)->Oc X.env.scope x->∃ u,RelV v u/\Look X.env s.heap m x u
 cell:∀ x c,X.env.cells.lookup x = some c->∃ v,s.heap.IsCell c v
 free:H X.env.locals = none
 freeC:∀ x c,X.env.cells.lookup x = some c->H c = none
 pin:∀ p ∈ X.pn ++ pins,s.heap.get? p.1 = some p.2/\H p.1 = none/\p.1 ≠ X.env.locals/\p.1 ∉ X.fs/\∀ v,p.2.data ≠ .cell v
 hok:HOk X.prog X.w H s.heap
 len:σ.length = X.N.length
section
variable {σ:List (Option V)}
theorem Cx.Ok.nofr (ok:X.Ok) {o:Obj} (e:X.base.get? b = some o):b ∉ X.fs:=fun hb=>by
 have:=(ok.funs.mem hb).1;rw [e] at this;cases this
theorem Inv.bs (I:Inv X pins σ H s):∀ b o,X.base.get? b = some o->s.heap.get? b = some o/\H b = none:=fun b o e =>
 ⟨I.base.keep b o (I.ok.bs b o e).1 (I.ok.bs b o e).2 (I.ok.nofr e) (I.ok.noex b o e),I.base.free b o (I.ok.bs b o e).1 (I.ok.bs b o e).2 (I.ok.noex b o e)⟩
theorem Inv.bk (I:Inv X pins σ H s):∀ b o,X.base.get? b = some o->s.heap.get? b = some o:=fun b o e=>(I.bs b o e).1
theorem Inv.mod (I:Inv X pins σ H s):Mod X.K X.mg X.base:=I.ok.mod
theorem Inv.kIn (I:Inv X pins σ H s):X.K.In s.heap:=I.ok.mod.kin.keeps I.bk
theorem Inv.nolimit (I:Inv X pins σ H s):s.heap.NoLimit:=I.ok.mod.nolimit.keeps I.bk
theorem Inv.lt (I:Inv X pins σ H s):X.env.locals < s.heap.objs.size:=let ⟨_,hn,_⟩:=I.loc;hn.lt
theorem Inv.sz (I:Inv X pins σ H s):X.s₀.heap.objs.size <= s.heap.objs.size:=Nat.le_trans I.ok.above (Nat.le_of_lt I.lt)
theorem Inv.nofs (I:Inv X pins σ H s) (h:s.heap.objs.size <= a):a ∉ X.fs:=fun hb=>by
 obtain ⟨_,o,ho,_⟩:=I.ok.funs.mem hb;exact absurd (Nat.lt_of_lt_of_le (Heap.lt_size ho) (Nat.le_trans I.sz h)) (Nat.lt_irrefl _)
theorem Inv.cne (I:Inv X pins σ H s):∀ x c,X.env.cells.lookup x = some c->c ≠ X.env.locals:=fun x c e z=>by
 obtain ⟨v,o,ho,hd⟩:=I.cell x c e;obtain ⟨m,⟨o',es,ep,vj,CS,_⟩,_⟩:=I.loc;rw [z,vj] at ho;cases ho;rw [CS] at hd;cases hd
theorem Inv.funs (I:Inv X pins σ H s):s.heap.FunFrames X.base X.outer:=by
 have all:∀ (l:List Env),(∀ b ∈ tE l,b ∈ X.fs)->X.s₀.heap.FunFrames X.base l->s.heap.FunFrames X.base l:=by
  intro l
  induction l with
  | nil=>intro _ _;trivial
  | cons env r ih =>
   intro hs hl;obtain ⟨hk,⟨L,o,hf,hn,ho,hd⟩,hr⟩:=hl;have hL:L ∈ X.fs:=hs L (by unfold tE;rw [List.filterMap_cons,hf];exact List.mem_cons_self);obtain ⟨sl,e⟩:=I.base.slot L o ho (I.ok.frf L hL) hL fun z=>I.ok.exfs L z hL
   exact ⟨hk,⟨L,_,hf,hn,e,hd⟩,ih (fun b hb=>hs b (by unfold tE;rw [List.filterMap_cons,hf];exact List.mem_cons_of_mem _ hb)) hr⟩
 exact all X.outer (fun _ hb=>hb) I.ok.funs
theorem Inv.stack (I:Inv X pins σ H s):s.heap.FunFrames X.base X.stack:=by
 rcases I.ok.stk with e | ⟨e,hf⟩
 ·rw [e];exact I.funs
 ·rw [e];obtain ⟨m,hn,_⟩:=I.loc;refine .cons (by rw [I.ok.kind];decide) hf hn ?_ I.funs;exact Heap.get?_none_of_le (Nat.le_trans I.ok.bsz I.ok.above)
theorem Inv.stkSub (I:Inv X pins σ H s):∀ b ∈ tE X.stack,b ∈ X.env.locals :: X.fs:=fun b hb=>by
 rcases I.ok.stk with e | ⟨e,hf⟩
 ·rw [e] at hb;exact List.mem_cons_of_mem _ hb
 ·rw [e] at hb;unfold tE at hb;rw [List.filterMap_cons,hf] at hb;exact hb
theorem Inv.stkFree (I:Inv X pins σ H s):∀ b ∈ tE X.stack,H b = none:=fun b hb=>by
 rcases List.mem_cons.mp (I.stkSub b hb) with e | hb
 ·rw [e];exact I.free
 ·obtain ⟨_,o,ho,_⟩:=I.ok.funs.mem hb;exact I.base.free b o ho (I.ok.frf b hb) fun z=>I.ok.exfs b z hb
theorem Inv.step {g' : Array GenState} {t' : Nat} {d' : Drawn} (I : Inv X pins σ H s)
    (pM:∀ b ∈ ch,(b ∈ X.ex \/ X.s₀.heap.objs.size <= b)/\b ≠ X.env.locals/\(∀ x c,X.env.cells.lookup x = some c->c ≠ b)/\∀ p ∈ X.pn ++ pins,p.1 ≠ b)
    (keep:∀ b o,b ≠ X.env.locals->b ∉ X.fs->b ∉ ch->s.heap.get? b = some o->H b = none->h'.get? b = some o)
    (slot:∀ b o,b ≠ X.env.locals->b ∈ X.fs->b ∉ ch->s.heap.get? b = some o->H b = none->∃ sl,h'.get? b = some { o with slots:=sl }) (free:∀ b o,b ∉ ch->s.heap.get? b = some o->H b = none->H' b = none)
    (there:∀ b o,b ∉ ch->s.heap.get? b = some o->∃ o',h'.get? b = some o')
    (tups:∀ b xs,H b = some (.tup xs)->H' b = some (.tup xs)) (frzs:∀ b o u,H b = some (.frz o u)->H' b = some (.frz o u)) (tbls:∀ b ps,H b = some (.tbl ps)->∃ more,H' b = some (.tbl (ps ++ more)))
    (ns:∀ m,s.heap.Ns X.env.locals m->h'.Ns X.env.locals m) (hok:HOk X.prog X.w H' h') (hg:AllBare g') :
    Inv X pins σ H' { s with heap:=h',gens:=g',drawn:=d',toks:=t' }:=by
 have YZ:∀ b o,X.s₀.heap.get? b = some o->b ≠ X.env.locals:=fun b o e=>Nat.ne_of_lt (Nat.lt_of_lt_of_le (Heap.lt_size e) I.ok.above)
 have NR:∀ b o,X.s₀.heap.get? b = some o->b ∉ X.ex->b ∉ ch:=fun b o e hx hb=>by
  rcases (pM b hb).1 with z | z
  ·exact hx z
  ·exact absurd (Nat.lt_of_lt_of_le (Heap.lt_size e) z) (Nat.lt_irrefl _)
 have cellK:∀ x c,X.env.cells.lookup x = some c->∀ v,s.heap.IsCell c v->h'.IsCell c v:=fun x c e v ⟨o,ho,hd⟩=>by
  have Lv:c ∉ ch:=fun z=>(pM c z).2.2.1 x c e rfl
  by_cases hc:c ∈ X.fs
  ·obtain ⟨sl,q⟩:=slot c o (I.cne x c e) hc Lv ho (I.freeC x c e);exact ⟨_,q,hd⟩
  ·exact ⟨o,keep c o (I.cne x c e) hc Lv ho (I.freeC x c e),hd⟩
 refine ⟨I.ok,I.os,hg,⟨fun b o e n hb hx=>?_,fun b o e n hb hx=>?_,fun b o e n hx=>?_,fun b o e hx=>?_,fun b xs e=>tups b xs (I.base.tups b xs e),fun b o xs e=>frzs b o xs (I.base.frzs b o xs e),fun b ps e=>?_⟩,?_,fun x c e=>?_,?_,fun x c e=>?_,fun p hp=>?_,hok,I.len⟩
 ·exact keep b o (YZ b o e) hb (NR b o e hx) (I.base.keep b o e n hb hx) (I.base.free b o e n hx)
 ·obtain ⟨sl,e1⟩:=I.base.slot b o e n hb hx;obtain ⟨Pt,e2⟩:=slot b _ (YZ b o e) hb (NR b o e hx) e1 (I.base.free b o e n hx);exact ⟨Pt,e2⟩
 ·obtain ⟨o',e1⟩:=I.base.there b o e hx;exact free b o' (NR b o e hx) e1 (I.base.free b o e n hx)
 ·obtain ⟨o',e1⟩:=I.base.there b o e hx;exact there b o' (NR b o e hx) e1
 ·obtain ⟨m1,e1⟩:=I.base.tbls b ps e;obtain ⟨m2,e2⟩:=tbls b _ e1;exact ⟨m1 ++ m2,by rw [e2,Array.append_assoc]⟩
 ·obtain ⟨m,hn,hl⟩:=I.loc;refine ⟨m,ns m hn,fun i x v e1 e2 e3=>?_⟩
  obtain ⟨u,r,l⟩:=hl i x v e1 e2 e3;refine ⟨u,r,?_⟩
  rcases l with l | ⟨k,c,e,z⟩
  ·exact .inl l
  ·exact .inr ⟨k,c,e,cellK x c e _ z⟩
 ·obtain ⟨v,z⟩:=I.cell x c e;exact ⟨v,cellK x c e v z⟩
 ·obtain ⟨m,⟨o,_,_,ho,_⟩,_⟩:=I.loc;exact free _ o (fun z=>(pM _ z).2.1 rfl) ho I.free
 ·obtain ⟨v,o,ho,hd⟩:=I.cell x c e;exact free c o (fun z=>(pM c z).2.2.1 x c e rfl) ho (I.freeC x c e)
 ·obtain ⟨e,n,ne,nf,d⟩:=I.pin p hp;have Lv:p.1 ∉ ch:=fun z=>(pM p.1 z).2.2.2 p hp rfl
  exact ⟨keep p.1 p.2 ne nf Lv e n,free p.1 p.2 Lv e n,ne,nf,d⟩
theorem Inv.un (I:Inv X pins σ H s) (u:Un X.fs [] H H' s.heap h') (hok:HOk X.prog X.w H' h'):Inv X pins σ H' { s with heap:=h',toks:=t' }:=by
 obtain ⟨m,⟨o,es,ep,ho,r⟩,_⟩:=id I.loc;obtain ⟨sl,hL⟩:=u.any ho I.free (by simp);exact I.step (g':=s.gens) (d':=s.drawn) (ch:=[]) (fun _ z=>nomatch z) (fun b o _ hb _ e n=>u.keep b o e n hb (by simp)) (fun b o _ hb _ e n=>u.slot b o e n hb (by simp)) (fun b o _ e n=>u.free b o e n (by simp)) (fun b o _ e=>u.there b o e (by simp)) u.tups u.frzs u.tbls (fun m' hm=>by
  obtain ⟨o',gC,Mv,vj,r'⟩:=hm;rw [ho] at vj;cases vj;exact ⟨_,gC,Mv,hL,r'⟩) hok I.bare
theorem Inv.call {g' : Array GenState} {d' : Drawn} (I : Inv X pins σ H s) (u : Un (tE X.stack) ch H H' s.heap h') (hok : HOk X.prog X.w H' h') (hg : AllBare g')
    (pM:∀ b ∈ ch,(b ∈ X.ex \/ X.s₀.heap.objs.size <= b)/\b ≠ X.env.locals/\(∀ x c,X.env.cells.lookup x = some c->c ≠ b)/\∀ p ∈ X.pn ++ pins,p.1 ≠ b) :
    Inv X pins σ H' { s with heap:=h',gens:=g',drawn:=d',toks:=t' }:=by
 obtain ⟨m,⟨o,es,ep,ho,r⟩,_⟩:=id I.loc;obtain ⟨sl,hL⟩:=u.any ho I.free fun z=>(pM _ z).2.1 rfl
 exact I.step (ch:=ch) pM (fun b o hL hb hc e n=>u.keep b o e n (fun z=>(List.mem_cons.mp (I.stkSub b z)).elim hL hb) hc) (fun b o _ _ hc e n=>u.any e n hc) (fun b o hc e n=>u.free b o e n hc) (fun b o hc e=>u.there b o e hc) u.tups u.frzs u.tbls (fun m' hm=>by
  obtain ⟨o',gC,Mv,vj,r'⟩:=hm;rw [ho] at vj;cases vj;exact ⟨_,gC,Mv,hL,r'⟩) hok hg
theorem Inv.turned {it : Addr} (I : Inv X pins σ H s) (k : ∀ b o, b ≠ it -> s.heap.get? b = some o -> h'.get? b = some o) (hn : H it = none) (hL : it ≠ X.env.locals)
    (h1:it ∈ X.ex \/ X.s₀.heap.objs.size <= it) (h2:∀ x c,X.env.cells.lookup x = some c->c ≠ it) (h3:∀ p ∈ X.pn ++ pins,p.1 ≠ it):Inv X pins σ H { s with heap:=h',toks:=t' }:=by
 have YX:∀ b u,H b = some u->b ≠ it:=fun b u e z=>by rw [z,hn] at e;cases e
 refine I.step (g':=s.gens) (d':=s.drawn) (ch:=[it]) (fun b hb=>?_) (fun b o _ _ hc e _=>k b o (fun z=>hc (by simp [z])) e) (fun b o _ _ hc e _=>⟨o.slots,k b o (fun z=>hc (by simp [z])) e⟩) (fun _ _ _ _ n=>n)
  (fun b o hc e=>⟨o,k b o (fun z=>hc (by simp [z])) e⟩) (fun _ _ e=>e) (fun _ _ _ e=>e) (fun b ps e=>⟨#[],by rw [e];simp⟩) (fun m hm=>?_) (fun b u e=>?_) I.bare
 ·have e:b = it:=by simpa using hb
  subst e;exact ⟨h1,hL,h2,h3⟩
 ·obtain ⟨o,es,ep,ho,r⟩:=hm;exact ⟨o,es,ep,k _ o (Ne.symm hL) ho,r⟩
 ·refine (I.hok b u e).stay (fun c v hc q=>k c v ?_ q) (fun _ q=>q) fun _ _ q=>q
  rcases hc with z | z
  ·rw [z];exact YX b u e
  ·exact YX c _ z
theorem Inv.tok (I:Inv X pins σ H s) (t:Nat):Inv X pins σ H { s with toks:=t }:=I.un (h':=s.heap) (t':=t) Un.refl I.hok
theorem Inv.kept (I:Inv X pins σ H s) (k:∀ b u,s.heap.get? b = some u->h'.get? b = some u):Inv X pins σ H { s with heap:=h',toks:=t' }:=I.un (Un.kept k) (I.hok.kept k)
theorem Inv.laid (I : Inv X pins σ H s) (k : ∀ b u, s.heap.get? b = some u -> h'.get? b = some u) (hp : s.heap.objs.size <= a) (new : ObjOk X.prog X.w (upd H a o) h' a o) :
    Inv X pins σ (upd H a o) { s with heap:=h',toks:=t' }:=I.un (Un.laid k hp (I.hok.fresh hp)) (I.hok.laid k hp new)
theorem Inv.write {x e : Addr} (I : Inv X pins σ H s) (mu : Nz (H x)) (he : e = x \/ H e = some (.own x)) (k : ∀ b u, b ≠ e -> s.heap.get? b = some u -> h'.get? b = some u) (Kp : ∃ u, h'.get? e = some u)
    (new:ObjOk X.prog X.w (upd H x o) h' x o):Inv X pins σ (upd H x o) { s with heap:=h',toks:=t' }:=I.un (Un.write mu he k Kp) (I.hok.write mu he k Kp new)
theorem Inv.pins_of {GB:List (Addr × Obj)} (I:Inv X pins σ H s) (h:∀ p ∈ GB,s.heap.get? p.1 = some p.2/\H p.1 = none/\p.1 ≠ X.env.locals/\p.1 ∉ X.fs/\∀ v,p.2.data ≠ .cell v):Inv X GB σ H s :=
 ⟨I.ok,I.os,I.bare,I.base,I.loc,I.cell,I.free,I.freeC,fun p hp=>(List.mem_append.mp hp).elim (fun z=>I.pin p (List.mem_append_left _ z)) (h p),I.hok,I.len⟩
theorem uQ {N:List Str} (hN:N.Nodup) (a:N[i]? = some x) (b:N[j]? = some x):i = j:=by
 obtain ⟨h1,e1⟩:=List.getElem?_eq_some_iff.mp a;obtain ⟨h2,e2⟩:=List.getElem?_eq_some_iff.mp b;exact (List.getElem_inj hN).mp (e1.trans e2.symm)
theorem qh {E : Value -> Shared -> Prop} {Q : Unit -> Shared -> Prop} (I : Inv X pins σ H s) (hN : X.N.Nodup) (hi : X.N[i]? = some x) (hx : Loc X.env.scope x) (r : RelV v u)
    (h:∀ s',Inv X pins (σ.set i (some v)) H s'->(∃ a,Heap.SameBut a s.heap s'.heap/\(a = X.env.locals \/ X.env.cells.lookup x = some a))->Q () s') (hf:X.fn x = true \/ X.env.scope.names.lookup x = some .local:=by first | exact .inl rfl | exact .inr rfl | assumption):wpAny M A (storeName X.env x u) Q E s:=by
 obtain ⟨m,hn,hl⟩:=id I.loc;have UJ:(X.env.scope.kind == .class || (X.env.scope.kind == .module && X.env.locals != X.env.globals)) = false:=by rw [I.ok.kind];rfl
 have L5:i < σ.length:=by rw [I.len];exact (List.getElem?_eq_some_iff.mp hi).1
 have cne:=I.cne;have tracked:∀ {a:Addr} {h':Heap},(∃ o,s.heap.get? a = some o/\H a = none)->Heap.SameBut a s.heap h'->HOk X.prog X.w H h':=fun {a h'} ha hs b ob e=>by
  obtain ⟨_,_,vq⟩:=ha;refine (I.hok b ob e).stay (fun c w' hc q=>(hs.2 c ?_).trans q) (fun _ q=>q) fun _ _ q=>q
  rintro rfl
  rcases hc with rfl | hc
  ·rw [vq] at e;cases e
  ·rw [vq] at hc;cases hc
 rcases hx with hk | hk
 ·refine wpAny_storeName_local hk hn (fun h' oB hs=>?_) UJ;obtain ⟨oL,_,_,hoL,_⟩:=id hn;refine h _ ⟨I.ok,I.os,I.bare,⟨fun b o e n hb hx=>?_,fun b o e n hb hx=>?_,I.base.free,fun b o e hx=>?_,I.base.tups,I.base.frzs,I.base.tbls⟩,⟨_,oB,fun j y v' e1 e2 e3=>?_⟩,fun y c e=>?_,I.free,I.freeC,fun p hp=>?_,tracked ⟨oL,hoL,I.free⟩ hs,by simpa using I.len⟩ ⟨_,hs,.inl rfl⟩
  ·exact (hs.2 b (Nat.ne_of_lt (Nat.lt_of_lt_of_le (Heap.lt_size e) I.ok.above))).trans (I.base.keep b o e n hb hx)
  ·obtain ⟨sl,e1⟩:=I.base.slot b o e n hb hx;exact ⟨sl,(hs.2 b (Nat.ne_of_lt (Nat.lt_of_lt_of_le (Heap.lt_size e) I.ok.above))).trans e1⟩
  ·obtain ⟨o',e1⟩:=I.base.there b o e hx;exact ⟨o',(hs.2 b (Nat.ne_of_lt (Nat.lt_of_lt_of_le (Heap.lt_size e) I.ok.above))).trans e1⟩
  ·by_cases hj:j = i
   ·subst hj;rw [hi] at e1;cases e1;rw [List.getElem?_set_self L5] at e2
    cases e2
    exact ⟨u,r,.inl ⟨hk,by simp⟩⟩
   ·rw [List.getElem?_set_ne (Ne.symm hj)] at e2;obtain ⟨u',r',q⟩:=hl j y v' e1 e2 e3;refine ⟨u',r',?_⟩
    rcases q with ⟨k,e⟩ | ⟨k,c,e,z⟩
    ·refine .inl ⟨k,?_⟩;have:y ≠ x:=fun e=>hj (uQ hN e1 (e ▸ hi))
     simp [this,e]
    ·exact .inr ⟨k,c,e,z.sameBut hs (cne y c e)⟩
  ·obtain ⟨w',z⟩:=I.cell y c e;exact ⟨w',z.sameBut hs (cne y c e)⟩
  ·obtain ⟨e,n,ne,nf,d⟩:=I.pin p hp;exact ⟨(hs.2 p.1 ne).trans e,n,ne,nf,d⟩
 ·have L9:X.fn x = true:=by
   rcases hf with z | z
   ·exact z
   ·rw [z] at hk;cases hk
  obtain ⟨c,hc⟩:=I.ok.has x (.inl hk);obtain ⟨w',z⟩:=I.cell x c hc;refine wpAny_storeName_cell I.ok.kind hk hc z (fun h' zV hs=>?_)
  obtain ⟨oc,GR,Up⟩:=id z;refine h { s with heap:=h' } ⟨I.ok,I.os,I.bare,⟨fun b o e n hb hx=>?_,fun b o e n hb hx=>?_,I.base.free,fun b o e hx=>?_,I.base.tups,I.base.frzs,I.base.tbls⟩,⟨m,hn.sameBut hs (Ne.symm (cne x c hc)),fun j y v' e1 e2 e3=>?_⟩,fun y c' e=>?_,I.free,I.freeC,fun p hp=>?_,tracked ⟨oc,GR,I.freeC x c hc⟩ hs,by simpa using I.len⟩ ⟨c,hs,.inr hc⟩
  ·exact (hs.2 b (Nat.ne_of_lt (Nat.lt_of_lt_of_le (Heap.lt_size e) (I.ok.cab x c L9 hc)))).trans (I.base.keep b o e n hb hx)
  ·obtain ⟨sl,e1⟩:=I.base.slot b o e n hb hx;exact ⟨sl,(hs.2 b (Nat.ne_of_lt (Nat.lt_of_lt_of_le (Heap.lt_size e) (I.ok.cab x c L9 hc)))).trans e1⟩
  ·obtain ⟨o',e1⟩:=I.base.there b o e hx;exact ⟨o',(hs.2 b (Nat.ne_of_lt (Nat.lt_of_lt_of_le (Heap.lt_size e) (I.ok.cab x c L9 hc)))).trans e1⟩
  ·by_cases hj:j = i
   ·subst hj;rw [hi] at e1;cases e1;rw [List.getElem?_set_self L5] at e2
    cases e2
    exact ⟨u,r,.inr ⟨.inl hk,c,hc,zV⟩⟩
   ·rw [List.getElem?_set_ne (Ne.symm hj)] at e2;obtain ⟨u',r',q⟩:=hl j y v' e1 e2 e3;refine ⟨u',r',?_⟩
    rcases q with q | ⟨k,c',e,z'⟩
    ·exact .inl q
    ·refine .inr ⟨k,c',e,z'.sameBut hs ?_⟩;rintro rfl;exact hj (uQ hN e1 (I.ok.inj _ _ _ e hc ▸ hi))
  ·by_cases qO:c' = c
   ·subst qO;exact ⟨_,zV⟩
   ·obtain ⟨w2,z2⟩:=I.cell y c' e;exact ⟨w2,z2.sameBut hs qO⟩
  ·obtain ⟨e,n,ne,nf,d⟩:=I.pin p hp;refine ⟨(hs.2 p.1 ?_).trans e,n,ne,nf,d⟩;intro q;rw [q,GR] at e;have q':oc = p.2:=Option.some.inj e;exact d w' (by rw [<- q'];exact Up)
theorem iK {E : Value -> Shared -> Prop} {Q : Unit -> Shared -> Prop} (I : Inv X pins σ H s) (hN : X.N.Nodup) (hi : X.N[i]? = some x) (hx : Loc X.env.scope x) (r : RelV v u)
    (h:∀ s',Inv X pins (σ.set i (some v)) H s'->Q () s') (hf:X.fn x = true \/ X.env.scope.names.lookup x = some .local:=by first | exact .inl rfl | exact .inr rfl | assumption):wpAny M A (storeName X.env x u) Q E s :=
 qh I hN hi hx r (fun s' I' _=>h s' I') hf
theorem Inv.call' (I : Inv X pins σ H s) (ho : s'.os = s.os) (u : Un (tE X.stack) ch H H' s.heap s'.heap) (hok : HOk X.prog X.w H' s'.heap) (hg : AllBare s'.gens)
    (pM:∀ b ∈ ch,(b ∈ X.ex \/ X.s₀.heap.objs.size <= b)/\b ≠ X.env.locals/\(∀ x c,X.env.cells.lookup x = some c->c ≠ b)/\∀ p ∈ X.pn ++ pins,p.1 ≠ b):Inv X pins σ H' s':=by
 obtain ⟨h',g',d',t',o'⟩:=s';have e:o' = s.os:=ho;subst e;exact I.call (g':=g') (t':=t') (d':=d') u hok hg pM
end
abbrev XK:=Value->Option Addr->Hp->Prop
variable {E:XK}
abbrev St:=List (Option V)
variable {σ:St}
abbrev VK:=V->Hp->Prop
variable {Q:VK}
abbrev TE:=St->Hp->VK->Prop
variable {ta te:TE}
abbrev TT:=St->Hp->(Bool->Hp->Prop)->Prop
abbrev TA:=St->Hp->(List V->Hp->Prop)->Prop
variable {t:TA}
structure Ends where
 nx:St->Hp->Prop
 rt:VK
 bk:St->Hp->Prop:=fun _ _=>False
 ct:St->Hp->Prop:=fun _ _=>False
variable {D:Ends}
abbrev TS:=Ends->St->Hp->Prop
variable {tb:TS}
def EP (X:Cx) (pins:List (Addr × Obj)) (σ:St) (Q:VK) (u:Value) (s':Shared):Prop:=∃ v H',Inv X pins σ H' s'/\RelV v u/\Q v H'
def TP (X:Cx) (pins:List (Addr × Obj)) (σ:St) (Q:Bool->Hp->Prop) (b:Bool) (s':Shared):Prop:=∃ H',Inv X pins σ H' s'/\Q b H'
def AP (X:Cx) (pins:List (Addr × Obj)) (σ:St) (Q:List V->Hp->Prop) (us:List Value) (s':Shared):Prop:=∃ vs H',Inv X pins σ H' s'/\Vals vs us/\Q vs H'
def SP (X:Cx) (pins:List (Addr × Obj)) (D:Ends) (f:Flow) (s':Shared):Prop :=
 match f with
 | .next=>∃ σ' H',Inv X pins σ' H' s'/\D.nx σ' H'
 | .brk=>∃ σ' H',Inv X pins σ' H' s'/\D.bk σ' H'
 | .cont=>∃ σ' H',Inv X pins σ' H' s'/\D.ct σ' H'
 | .ret u=>∃ v σ' H',Inv X pins σ' H' s'/\RelV v u/\D.rt v H'
def PE (X:Cx) (e:Expr) (t:TE):Prop :=
 ∀ (pins:List (Addr × Obj)) (s:Shared) (σ:St) (H:Hp) (Q:VK),Inv X pins σ H s->t σ H Q->wpAny (model X.prog X.w) X.A (eval e X.env) (EP X pins σ Q) X.xe s
def PT (X:Cx) (e:Expr) (t:TT):Prop :=
 ∀ (pins:List (Addr × Obj)) (s:Shared) (σ:St) (H:Hp) (Q:Bool->Hp->Prop),Inv X pins σ H s->t σ H Q->wpAny (model X.prog X.w) X.A (isTrue e X.env (eval e X.env)) (TP X pins σ Q) X.xe s
def PW (X:Cx) (e:Expr) (t:TT):Prop :=
 ∀ (whole:Sem Value) (pins:List (Addr × Obj)) (s:Shared) (σ:St) (H:Hp) (Q:Bool->Hp->Prop),Inv X pins σ H s->t σ H Q->wpAny (model X.prog X.w) X.A (isTrue e X.env whole) (TP X pins σ Q) X.xe s
theorem PW.pt {t:TT} (h:PW X e t):PT X e t:=h _
def PA (X:Cx) (es:List Expr) (t:TA):Prop :=
 ∀ (pos:Pos) (pins:List (Addr × Obj)) (s:Shared) (σ:St) (H:Hp) (Q:List V->Hp->Prop),Inv X pins σ H s->t σ H Q->wpAny (model X.prog X.w) X.A (spliced (backTo pos (starEach es X.env))) (AP X pins σ Q) X.xe s
def PS (X:Cx) (st:Stmt) (t:TS):Prop :=
 ∀ (pins:List (Addr × Obj)) (s:Shared) (σ:St) (H:Hp) (D:Ends),Inv X pins σ H s->t D σ H->wpAny (model X.prog X.w) X.A (exec st X.env) (SP X pins D) X.xe s
def PSs (X:Cx) (st:List Stmt) (t:TS):Prop :=
 ∀ (pins:List (Addr × Obj)) (s:Shared) (σ:St) (H:Hp) (D:Ends),Inv X pins σ H s->t D σ H->wpAny (model X.prog X.w) X.A (execs st X.env) (SP X pins D) X.xe s
theorem cz {α:Type} {t:Sem α} {Q Q':α->Shared->Prop} {E:Value->Shared->Prop} (h:wpAny M A t Q E s) (hQ:∀ a s,Q a s->Q' a s):wpAny M A t Q' E s:=wpAny_mono h hQ fun _ _ x=>x
section
def rG (i:Nat):TE:=fun σ H Q=>∃ v,σ[i]? = some (some v)/\Q v H
def tC (v:V):TE:=fun _ H Q=>Q v H
theorem ID (hN:X.N[i]? = some x) (hv:Oc X.env.scope x) (hd:(x == ("__debug__":Str)) = false:=by decide) (j5:(x == ("__classdict__":Str)) = false:=by decide):PE X (.Name x pos) (rG i):=by
 intro pins s σ H Q I h;obtain ⟨v,e,h⟩:=h;obtain ⟨m,hn,hl⟩:=I.loc;obtain ⟨u,r,l⟩:=hl i x v hN e hv;have fin:EP X pins σ Q u s:=⟨v,H,I,r,h⟩
 rcases l with ⟨hk,hm⟩ | ⟨hk,c,hc,qN⟩
 ·exact wpAny_Name (wpAny_loadName_local I.ok.kind hk hn hm fin) hd
 ·rcases hk with hk | hk
  ·exact wpAny_Name (wpAny_loadName_cell I.ok.kind hk hc qN fin) hd
  ·exact wpAny_Name (wpAny_loadName_free I.ok.kind hk hc qN fin j5) hd
theorem II {i j pos}:PE X (.Constant (.int i) j pos) (tC (.int i)):=fun _ _ _ H _ I h=>wpAny_Constant_int ⟨.int i,H,I.tok _,⟨_,rfl⟩,h⟩
theorem Lk {b j pos}:PE X (.Constant (.bool b) j pos) (tC (.bl b)):=fun _ _ _ H _ I h=>Constant_bool ⟨.bl b,H,I,rfl,h⟩
theorem IH {j pos}:PE X (.Constant .none j pos) (tC .non):=fun _ _ _ H _ I h=>Constant_none ⟨.non,H,I,rfl,h⟩
theorem IE {x j pos}:PE X (.Constant (.str x) j pos) (tC (.str x)):=fun _ _ _ H _ I h=>Calls.Constant_str ⟨.str x,H,I.tok _,⟨_,rfl⟩,h⟩
def Gl (X:Cx) (x:Str):Prop:=X.env.kindOf x = some .globalImplicit
theorem yk {E : Value -> Shared -> Prop} {Q : Value -> Shared -> Prop} (I : Inv X pins σ H s) (hg : Gl X x) (hm : X.mg x = some u) (h : Q u s)
    (hd:(x == ("__debug__":Str)) = false:=by decide):wpAny (model X.prog X.w) X.A (eval (.Name x pos) X.env) Q E s :=
 Calls.Name_function_global I.ok.kind hg (Calls.loadGlobal_global (by rw [I.ok.glob];exact I.mod.glob.keeps I.bk) hm h) hd
theorem lI {E : Value -> Shared -> Prop} {Q : Value -> Shared -> Prop} (I : Inv X pins σ H s) (hg : Gl X x) (hm : X.mg x = none) (hv : bootBuiltins x = some u) (h : Q u s)
    (hn:x ≠ "__name__":=by decide) (hd:(x == ("__debug__":Str)) = false:=by decide):wpAny (model X.prog X.w) X.A (eval (.Name x pos) X.env) Q E s:=by
 obtain ⟨mb,h1,h2⟩:=I.mod.blt;exact Calls.Name_function_global I.ok.kind hg (Calls.loadGlobal_builtin (by rw [I.ok.glob];exact I.mod.glob.keeps I.bk) hm (by rw [I.ok.blt];exact h1.keeps I.bk) ((h2 x hn).trans hv) h) hd
theorem EL (hg:Gl X x) (hm:X.mg x = some u) (r:RelV v u) (hd:(x == ("__debug__":Str)) = false:=by decide):PE X (.Name x pos) (tC v) :=
 fun _ _ _ H _ I h=>yk I hg hm ⟨v,H,I,r,h⟩ hd
theorem ER (hg:Gl X x) (hm:X.mg x = none) (hv:bootBuiltins x = some u) (r:RelV v u) (hn:x ≠ "__name__":=by decide) (hd:(x == ("__debug__":Str)) = false:=by decide):PE X (.Name x pos) (tC v) :=
 fun _ _ _ H _ I h=>lI I hg hm hv ⟨v,H,I,r,h⟩ hn hd
variable {a b:Expr} {tb:TE}
def tB (t:TE):TT:=fun σ H Q=>t σ H fun x H1=>∃ c,x = .bl c/\Q c H1
theorem Ir {t:TE} (h:PE X e t) (he:∀ whole,isTrue e X.env whole = (do let v <- whole;standAt e.pos;holding [v] (truthy v)):=by intro _;rfl):PT X e (tB t):=by
 intro pins s σ H Q I hw;refine isTrue_plain (cz (h pins s σ H _ I hw) fun v s1 ⟨x,H1,I1,r1,q1⟩=>?_) (he _)
 obtain ⟨d,rfl,q⟩:=q1
 cases r1
 exact wpAny_truthy_bool ⟨H1,I1,q⟩
variable {tA DQ:TT} {rest:List Expr}
def Hh (t u:TT):TT:=fun σ H Q=>t σ H fun c H1=>if c = true then u σ H1 Q else Q false H1
def Oy (t u:TT):TT:=fun σ H Q=>t σ H fun c H1=>if c = true then Q true H1 else u σ H1 Q
def Hc (t:TT):TT:=fun σ H Q=>t σ H fun c H1=>Q (!c) H1
theorem Ep (ha:PT X a tA):PW X (.BoolOp .And [a] pos) tA:=by
 intro wh pins s σ H Q I h;refine isTrue_and (cz (ha pins s σ H Q I h) fun c s1 e=>?_)
 cases c with
 | true=>exact isTrue_and_nil e
 | false=>exact e
theorem Ip (ha:PT X a tA):PW X (.BoolOp .Or [a] pos) tA:=by
 intro wh pins s σ H Q I h;refine isTrue_or (cz (ha pins s σ H Q I h) fun c s1 e=>?_)
 cases c with
 | false=>exact isTrue_or_nil e
 | true=>exact e
theorem Iq (ha:PT X a tA) (hb:PW X (.BoolOp .And (b :: rest) pos) DQ):PW X (.BoolOp .And (a :: b :: rest) pos) (Hh tA DQ):=by
 intro wh pins s σ H Q I h;refine isTrue_and (cz (ha pins s σ H _ I h) fun c s1 ⟨H1,I1,q1⟩=>?_)
 cases c with
 | true=>exact hb wh pins s1 σ H1 Q I1 q1
 | false=>exact ⟨H1,I1,q1⟩
theorem K9 (ha:PT X a tA) (hb:PW X (.BoolOp .Or (b :: rest) pos) DQ):PW X (.BoolOp .Or (a :: b :: rest) pos) (Oy tA DQ):=by
 intro wh pins s σ H Q I h;refine isTrue_or (cz (ha pins s σ H _ I h) fun c s1 ⟨H1,I1,q1⟩=>?_)
 cases c with
 | true=>exact ⟨H1,I1,q1⟩
 | false=>exact hb wh pins s1 σ H1 Q I1 q1
theorem Iu (ha:PT X a tA):PT X (.UnaryOp .Not a pos) (Hc tA):=by
 intro pins s σ H Q I h;exact isTrue_not (ha pins s σ H (fun c H1=>Q (!c) H1) I h)
def AR (ta tb:TE):TE:=fun σ H Q=>ta σ H fun x H1=>∃ c,x = .bl c/\if c = true then tb σ H1 Q else Q (.bl false) H1
def Hb (ta tb:TE):TE:=fun σ H Q=>ta σ H fun x H1=>∃ c,x = .bl c/\if c = true then Q (.bl true) H1 else tb σ H1 Q
def AJ (ta:TE):TE:=fun σ H Q=>ta σ H fun x H1=>∃ c,x = .bl c/\Q (.bl (!c)) H1
theorem IF {op} {t:TE} (h:PE X a t):PE X (.BoolOp op [a] pos) t:=fun pins s σ H Q I hw=>BoolOp_one (h pins s σ H Q I hw)
theorem IJ (ha:PE X a ta) (hb:PE X (.BoolOp .And (b :: rest) pos) tb):PE X (.BoolOp .And (a :: b :: rest) pos) (AR ta tb):=by
 intro pins s σ H Q I h;refine BoolOp_and (cz (ha pins s σ H _ I h) fun v s1 ⟨x,H1,I1,r1,q1⟩=>?_)
 obtain ⟨c,rfl,q1⟩:=q1
 cases r1
 refine wpAny_truthy_bool ?_
 cases c with
 | true=>exact hb pins s1 σ H1 Q I1 q1
 | false=>exact ⟨.bl false,H1,I1,rfl,q1⟩
theorem Le (ha:PE X a ta) (hb:PE X (.BoolOp .Or (b :: rest) pos) tb):PE X (.BoolOp .Or (a :: b :: rest) pos) (Hb ta tb):=by
 intro pins s σ H Q I h;refine BoolOp_or (cz (ha pins s σ H _ I h) fun v s1 ⟨x,H1,I1,r1,q1⟩=>?_)
 obtain ⟨c,rfl,q1⟩:=q1
 cases r1
 refine wpAny_truthy_bool ?_
 cases c with
 | false=>exact hb pins s1 σ H1 Q I1 q1
 | true=>exact ⟨.bl true,H1,I1,rfl,q1⟩
theorem IG (ha:PE X a ta):PE X (.UnaryOp .Not a pos) (AJ ta):=by
 intro pins s σ H Q I h;refine UnaryOp_ (cz (ha pins s σ H _ I h) fun v s1 ⟨x,H1,I1,r1,q1⟩=>?_)
 obtain ⟨c,rfl,q1⟩:=q1
 cases r1
 exact not_of (wpAny_truthy_bool ⟨.bl (!c),H1,I1,rfl,q1⟩)
def Oz (t:TT) (ta tb:TE):TE:=fun σ H Q=>t σ H fun c H1=>if c = true then ta σ H1 Q else tb σ H1 Q
theorem B3 (hc:PT X c tA) (ha:PE X a ta) (hb:PE X b tb):PE X (.IfExp c a b pos) (Oz tA ta tb):=by
 intro pins s σ H Q I h;refine wpAny_IfExp (cz (hc pins s σ H _ I h) fun d s1 ⟨H1,I1,q1⟩=>?_)
 cases d with
 | true=>exact ha pins s1 σ H1 Q I1 q1
 | false=>exact hb pins s1 σ H1 Q I1 q1
end
def SqL (K:W.Frag) (H:Hp) (a:Addr) (xs:List V):Prop :=
 Rd H a (.lst xs) \/
  ∃ (o:Obj) (its:Array Value) (n:Nat),K.lookup a = some o/\o.cls = .type "list"/\o.dict = none/\o.data = .seq its n/\its.size <= sizeLine/\Vals xs its.toList
def SqT (K:W.Frag) (H:Hp) (a:Addr) (xs:List V):Prop :=
 Rd H a (.tup xs) \/
  ∃ (o:Obj) (its:Array Value) (n:Nat),K.lookup a = some o/\o.cls = .type "tuple"/\o.data = .seq its n/\its.size <= sizeLine/\Vals xs its.toList
def YE:Value->Option V
 | .none=>some .non
 | .bool b=>some (.bl b)
 | .int i _=>some (.int i)
 | .str x _=>some (.str x)
 | .bytes b _=>some (.byt b)
 | .float b _=>some (.flt b)
 | .ref a=>some (.ref a)
 | .type n=>some (.ty n)
 | _=>none
theorem RelV.abs {x:V} (r:RelV x u):YE u = some x:=by
 cases x with
 | non=>cases r;rfl
 | bl _=>cases r;rfl
 | int _=>obtain ⟨t,rfl⟩:=r;rfl
 | str _=>obtain ⟨t,rfl⟩:=r;rfl
 | byt _=>obtain ⟨t,rfl⟩:=r;rfl
 | flt _=>obtain ⟨t,rfl⟩:=r;rfl
 | ref _=>cases r;rfl
 | ty _=>cases r;rfl
theorem RelV.inj {x y:V} (r:RelV x u) (q:RelV y u):x = y:=Option.some.inj (r.abs.symm.trans q.abs)
theorem Vals.inj:∀ {xs ys:List V} {us:List Value},Vals xs us->Vals ys us->xs = ys
 | _,_,_,.nil,.nil=>rfl
 | _,_,_,.cons r t,.cons r' t'=>by rw [r.inj r',Vals.inj t t']
section
variable {ys:List V}
theorem SqL.of (h:H a = some (.lst xs)):SqL K H a xs:=.inl (.inl h)
theorem SqT.of (h:H a = some (.tup xs)):SqT K H a xs:=.inl (.inl h)
theorem Inv.list (I:Inv X pins σ H s) (h:SqL X.K H a xs):∃ its:List Value,Vals xs its/\PlainL s.heap a its.toArray/\xs.length <= sizeLine:=by
 rcases h with h | ⟨o,its,n,hk,hc,hd,hs,hz,r⟩
 ·obtain ⟨z,its,n,r,e⟩:=h.ok I.hok;exact ⟨its,r,⟨_,n,e,rfl,rfl,rfl⟩,z⟩
 ·refine ⟨its.toList,r,⟨o,n,I.kIn a o hk,hc,hd,by simpa using hs⟩,?_⟩;have e:=r.length;simp only [Array.length_toList] at e;omega
theorem Inv.tuple (I:Inv X pins σ H s) (h:SqT X.K H a xs):∃ its:List Value,Vals xs its/\IsTup s.heap a its.toArray/\xs.length <= sizeLine:=by
 rcases h with h | ⟨o,its,n,hk,hc,hs,hz,r⟩
 ·obtain ⟨z,its,r,p⟩:=h.ok I.hok;exact ⟨its,r,p,z⟩
 ·refine ⟨its.toList,r,⟨o,I.kIn a o hk,hc,n,by simpa using hs⟩,?_⟩;have e:=r.length;simp only [Array.length_toList] at e;omega
theorem Inv.list_inj (I:Inv X pins σ H s) (h:SqL X.K H a xs) (h':SqL X.K H a ys):xs = ys:=by
 obtain ⟨its,r,⟨o,n,e,_,_,d⟩,_⟩:=I.list h;obtain ⟨its',r',⟨o',n',e',_,_,d'⟩,_⟩:=I.list h';rw [e] at e';cases e';rw [d] at d'
 injection d' with d1 _
 have:its = its':=by simpa using congrArg Array.toList d1
 subst this;exact r.inj r'
theorem Inv.tuple_inj (I:Inv X pins σ H s) (h:SqT X.K H a xs) (h':SqT X.K H a ys):xs = ys:=by
 obtain ⟨its,r,⟨o,e,_,n,d⟩,_⟩:=I.tuple h;obtain ⟨its',r',⟨o',e',_,n',d'⟩,_⟩:=I.tuple h';rw [e] at e';cases e';rw [d] at d'
 injection d' with d1 _
 have:its = its':=by simpa using congrArg Array.toList d1
 subst this;exact r.inj r'
end
abbrev Cx.wish (X:Cx) (E:Value->Shared->Prop):Cx:={ X with xe:=E }
abbrev Cx.nox (X:Cx):Cx:=X.wish fun _ _=>False
theorem Cx.Ok.wish (ok:X.Ok) (E:Value->Shared->Prop):(X.wish E).Ok :=
 ⟨ok.mod,ok.kind,ok.glob,ok.blt,ok.above,ok.inj,ok.has,ok.cab,ok.hd,ok.frames,ok.stk,ok.exf,ok.bs,ok.bsz,ok.noex,ok.exfs,ok.funs,ok.frf⟩
theorem Cx.Ok.unwish {E:Value->Shared->Prop} (ok:(X.wish E).Ok):X.Ok :=
 ⟨ok.mod,ok.kind,ok.glob,ok.blt,ok.above,ok.inj,ok.has,ok.cab,ok.hd,ok.frames,ok.stk,ok.exf,ok.bs,ok.bsz,ok.noex,ok.exfs,ok.funs,ok.frf⟩
section
variable {E:Value->Shared->Prop}
theorem Inv.wish (I:Inv X pins σ H s) (E:Value->Shared->Prop):Inv (X.wish E) pins σ H s:=⟨I.ok.wish E,I.os,I.bare,I.base,I.loc,I.cell,I.free,I.freeC,I.pin,I.hok,I.len⟩
theorem Inv.unwish (I:Inv (X.wish E) pins σ H s):Inv X pins σ H s:=⟨I.ok.unwish,I.os,I.bare,I.base,I.loc,I.cell,I.free,I.freeC,I.pin,I.hok,I.len⟩
theorem SP.unwish {f:Flow} (h:SP (X.wish E) pins D f s'):SP X pins D f s':=by
 cases f with
 | next=>obtain ⟨σ',H',I,q⟩:=h;exact ⟨σ',H',I.unwish,q⟩
 | brk=>obtain ⟨σ',H',I,q⟩:=h;exact ⟨σ',H',I.unwish,q⟩
 | cont=>obtain ⟨σ',H',I,q⟩:=h;exact ⟨σ',H',I.unwish,q⟩
 | ret u=>obtain ⟨v,σ',H',I,r,q⟩:=h;exact ⟨v,σ',H',I.unwish,r,q⟩
theorem PSs.nox {st:List Stmt} {t:TS} (h:PSs X.nox st t):PSs X st t:=fun pins s σ H D I hw =>
 wpAny_mono (h pins s σ H D (I.wish _) hw) (fun _ _ q=>q.unwish) fun _ _ z=>False.elim z
end
section
variable {st:Stmt} {rest:List Stmt} {t u:TS}
def AK:TS:=fun D σ H=>D.nx σ H
def AI (t u:TS):TS:=fun D σ H=>t { D with nx:=u D } σ H
theorem Ex:PSs X [] AK:=fun _ _ σ H _ I h=>wpAny_execs_nil ⟨σ,H,I,h⟩
theorem BP (h1:PS X st t) (h2:PSs X rest u):PSs X (st :: rest) (AI t u):=by
 intro pins s σ H D I h;refine wpAny_execs_cons (cz (h1 pins s σ H { D with nx:=u D } I h) fun f s1 q=>?_)
 cases f with
 | next =>
  obtain ⟨σ',H',I',q⟩:=q;exact h2 pins s1 σ' H' D I' q
 | ret v=>exact q
 | brk=>exact q
 | cont=>exact q
theorem Ew (h1:PS X st t):PSs X [st] t:=by
 intro pins s σ H D I h;refine wpAny_execs_cons (cz (h1 pins s σ H D I h) fun f s1 q=>?_)
 cases f with
 | next=>exact wpAny_execs_nil q
 | ret v=>exact q
 | brk=>exact q
 | cont=>exact q
theorem Inv.quiet (I:Inv X pins σ H s):interactive X.env = false:=by simp [interactive,I.ok.kind]
def AN (te:TE):TS:=fun D σ H=>te σ H fun _ H1=>D.nx σ H1
theorem Ey (he:PE X e te) (hs:swapsWith e none pos.line X.env = pure false:=by rfl):PS X (.Expr e pos) (AN te):=by
 intro pins s σ H D I h;exact wpAny_Expr_any (cz (he pins s σ H _ I h) fun v s1 ⟨x,H1,I1,r1,q1⟩=>⟨σ,H1,I1,q1⟩) I.quiet hs
def DN (te:TE):TS:=fun D σ H=>te σ H D.rt
theorem Iw (he:PE X e te):PS X (.Return (some e) pos) (DN te):=by
 intro pins s σ H D I h;exact wpAny_Return_some (cz (he pins s σ H _ I h) fun v s1 ⟨x,H1,I1,r1,q1⟩=>⟨x,σ,H1,I1,r1,q1⟩)
def He (c:TT) (t u:TS):TS:=fun D σ H=>c σ H fun b H1=>if b = true then t D σ H1 else u D σ H1
theorem K' {a b:List Stmt} {tc:TT} (hc:PT X c tc) (ha:PSs X a t) (hb:PSs X b u):PS X (.If c a b pos) (He tc t u):=by
 intro pins s σ H D I h;refine wpAny_If (cz (hc pins s σ H _ I h) fun d s1 ⟨H1,I1,q1⟩=>?_)
 cases d with
 | true=>exact ha pins s1 σ H1 D I1 q1
 | false=>exact hb pins s1 σ H1 D I1 q1
def AL:TS:=fun _ _ _=>False
theorem BR:PS X st AL:=fun _ _ _ _ _ _ h=>h.elim
end
abbrev TG:=V->St->Hp->(St->Hp->Prop)->Prop
variable {g:TG}
def PG (X:Cx) (target:Expr) (t:TG):Prop :=
 ∀ (pins:List (Addr × Obj)) (s:Shared) (σ:St) (H:Hp) (v:V) (u:Value) (Q:St->Hp->Prop),Inv X pins σ H s->RelV v u->t v σ H Q ->
  wpAny (model X.prog X.w) X.A (assign target X.env u) (fun _ s'=>∃ σ' H',Inv X pins σ' H' s'/\Q σ' H') X.xe s
section
def oG (i:Nat):TG:=fun v σ H Q=>Q (σ.set i (some v)) H
theorem EF (hN:X.N.Nodup) (hi:X.N[i]? = some x) (hx:Loc X.env.scope x) (hf:X.fn x = true \/ X.env.scope.names.lookup x = some .local:=by first | exact .inl rfl | exact .inr rfl | assumption):PG X (.Name x pos) (oG i):=by
 intro pins s σ H v u Q I r h;exact wpAny_assign_Name (iK I hN hi hx r (fun s' I'=>⟨_,H,I',h⟩) hf)
def AQ (te:TE) (g:TG):TS:=fun D σ H=>te σ H fun x H1=>g x σ H1 D.nx
theorem Iv {pos' : Pos} (hN : X.N.Nodup) (hi : X.N[i]? = some x) (hx : Loc X.env.scope x) (he : PE X e te) (hs : swapsWith e (some (.Name x pos')) pos.line X.env = pure false := by rfl) (hf : X.fn x = true \/ X.env.scope.names.lookup x = some .local := by first | exact .inl rfl | exact .inr rfl | assumption) :
    PS X (.Assign [.Name x pos'] e pos) (AQ te (oG i)):=by
 intro pins s σ H D I h;refine wpAny_Assign_Name (cz (he pins s σ H _ I h) fun v s1 ⟨y,H1,I1,r1,q1⟩=>?_) hs
 exact iK I1 hN hi hx r1 (fun s2 I2=>⟨_,H1,I2,q1⟩) hf
end
structure It where
 go:Nat->Hp->Prop
 yld:Nat->Hp->V->Hp->Prop
 stop:Nat->Hp->Prop
def FpOk (X:Cx) (pins:List (Addr × Obj)) (H:Hp) (b:Addr):Prop :=
 H b = none/\b ≠ X.env.locals/\b ∉ X.fs/\(b ∈ X.ex \/ X.s₀.heap.objs.size <= b)/\(∀ x c,X.env.cells.lookup x = some c->c ≠ b)/\∀ p ∈ X.pn ++ pins,p.1 ≠ b
theorem Inv.fpOk (I:Inv X pins σ H s) (hb:s.heap.objs.size <= b) (hn:H' b = none):FpOk X pins H' b:=by
 refine ⟨hn,Nat.ne_of_gt (Nat.lt_of_lt_of_le I.lt hb),I.nofs hb,.inr (Nat.le_trans I.sz hb),fun x c e z=>?_,fun p hp z=>?_⟩
 ·obtain ⟨v,q⟩:=I.cell x c e;exact absurd (Nat.lt_of_lt_of_le q.lt (by rw [z];exact hb)) (Nat.lt_irrefl _)
 ·exact absurd (Nat.lt_of_lt_of_le (Heap.lt_size (I.pin p hp).1) (by rw [z];exact hb)) (Nat.lt_irrefl _)
structure Turn (P:Program) (w:World) (K:W.Frag) (tg:Expr) (J:It) (fp:List Addr) (it:Addr) (tn:Nat->Heap->Prop):Prop where
 mem:it ∈ fp
 obj:∀ i h,tn i h->∀ b ∈ fp,∃ o,h.get? b = some o/\∀ v,o.data ≠ .cell v
 keep:∀ i h h',tn i h->(∀ b ∈ fp,∀ o,h.get? b = some o->h'.get? b = some o)->tn i h'
 item:∀ (X:Cx),X.prog = P->X.w = w->X.K = K->X.calm = true->∀ (i:Nat) (pins:List (Addr × Obj)) (s:Shared) (σ:St) (H:Hp) (E:Value->Shared->Prop),Inv X pins σ H s->(∀ b ∈ fp,FpOk X pins H b)->tn i s.heap->J.go i H ->
  wpAny (model P w) X.A (pyNext (.ref it)) (fun r s1=>∃ u,r = some u /\
   wpAny (model P w) X.A (letOwnedTupleGo tg (.ref it) u) (fun _ s2=>∃ x H',Inv X pins σ H' s2/\RelV x u/\J.yld i H x H'/\tn (i + 1) s2.heap/\∀ b ∈ fp,H' b = none) E s1) E s
 done:∀ (X:Cx),X.prog = P->X.w = w->X.K = K->X.calm = true->∀ (i:Nat) (pins:List (Addr × Obj)) (s:Shared) (σ:St) (H:Hp) (E:Value->Shared->Prop),Inv X pins σ H s->(∀ b ∈ fp,FpOk X pins H b)->tn i s.heap->J.stop i H ->
  wpAny (model P w) X.A (pyNext (.ref it)) (fun r s1=>r = none/\Inv X pins σ H s1) E s
 self:∀ (A:Around) (i:Nat) (s:Shared) (Q:Value->Shared->Prop) (E:Value->Shared->Prop),tn i s.heap->Q (.ref it) s->wpAny (model P w) A (pyIter (.ref it)) Q E s
abbrev TI:=St->Hp->(It->Hp->Prop)->Prop
def Z1 (X:Cx) (pins:List (Addr × Obj)) (σ:St) (tg:Expr) (R:It->Hp->Prop) (NU:Value) (s2:Shared):Prop :=
 ∃ (it:Addr) (fp:List Addr) (tn:Nat->Heap->Prop) (J:It) (H':Hp),NU = .ref it/\Inv X pins σ H' s2/\Turn X.prog X.w X.K tg J fp it tn/\tn 0 s2.heap/\(∀ b ∈ fp,FpOk X pins H' b)/\R J H'
def PI (X:Cx) (tg iter:Expr) (wi:TI):Prop :=
 ∀ (pins:List (Addr × Obj)) (s:Shared) (σ:St) (H:Hp) (R:It->Hp->Prop),Inv X pins σ H s->wi σ H R ->
  wpAny (model X.prog X.w) X.A (eval iter X.env) (fun v s1=>wpAny (model X.prog X.w) X.A (pyIter v) (Z1 X pins σ tg R) X.xe s1) X.xe s
theorem yB {E : Value -> Shared -> Prop} {it : Addr} {o : Obj} {n : String} {vs : Array Value} {Q : Unit -> Shared -> Prop} (ho : s.heap.get? it = some o) (hc : o.cls = .type n) (hd : o.data = .fields vs)
    (hn:["enumerate","zip","dict_itemiterator","dict_reverseitemiterator","odict_iterator","itertools.zip_longest","itertools.pairwise"].contains n = false) (hQ:Q () s):wpAny M A (letOwnedTupleGo tg (.ref it) u) Q E s:=by
 unfold letOwnedTupleGo
 cases tg <;> first
  | exact wpAny_pure hQ
  | (cases u <;> first
      | exact wpAny_pure hQ
      | (refine wpAny_bind (wpAny_load ho ?_)
         rw [hc,hd];show wpAny M A (if (["enumerate","zip","dict_itemiterator","dict_reverseitemiterator","odict_iterator","itertools.zip_longest","itertools.pairwise"].contains n && vs[0]? == some (rawInt _)) = true then _ else _) Q E s
         rw [if_neg (by intro h;rw [hn,Bool.false_and] at h;cases h)];exact wpAny_pure hQ))
def FR (K:W.Frag) (a:Addr):It :=
 ⟨fun i H=>∃ xs x,SqL K H a xs/\xs[i]? = some x,fun i H x H'=>H' = H/\∀ xs,SqL K H a xs->xs[i]? = some x,fun i H=>∃ xs,SqL K H a xs/\xs.length <= i⟩
def FQ (K:W.Frag) (a:Addr):It :=
 ⟨fun i H=>∃ xs x,SqT K H a xs/\xs[i]? = some x,fun i H x H'=>H' = H/\∀ xs,SqT K H a xs->xs[i]? = some x,fun i H=>∃ xs,SqT K H a xs/\xs.length <= i⟩
def Av (lo:Int) (n:Nat):It:=⟨fun i _=>i < n,fun i H x H'=>H' = H/\x = .int (lo + i),fun i _=>n <= i⟩
theorem yT (a it:Addr):Turn P w K tg (FR K a) [it] it (fun i h=>h.IsListIter it a i) where
 mem:=by simp
 obj:=fun i h st b hb=>by
  have e:b = it:=by simpa using hb
  subst e;obtain ⟨o,e,c,d⟩:=st;exact ⟨o,e,fun v z=>by rw [d] at z;cases z⟩
 keep:=fun i h h' st k=>st.at fun o e=>k it (by simp) o e
 item:=by
  intro X hP hw hK hc i pins s σ H E I hf st hg;subst hP hw hK;obtain ⟨xs,x,hq,hx⟩:=hg;obtain ⟨its,rv,p,hz⟩:=I.list hq;obtain ⟨u,hu,ru⟩:=rv.get hx;obtain ⟨f0,f1,f2,f3,f4,f5⟩:=hf it (by simp);refine wpAny_pyNext_list_item st p.isList (x:=u) (by simpa using hu) fun h' bA sb=>?_
  have I1:Inv X pins σ H { s with heap:=h' }:=I.turned (t':=s.toks) (fun b o hb e=>(sb.2 b hb).trans e) f0 f1 f3 f4 f5
  obtain ⟨o,e,c,d⟩:=id bA;exact ⟨u,rfl,yB (s:={ s with heap:=h' }) e c d (by decide) ⟨x,H,I1,ru,⟨rfl,fun ys hy=>by rw [I.list_inj hy hq];exact hx⟩,bA,fun b hb=>(hf b hb).1⟩⟩
 done:=by
  intro X hP hw hK hc i pins s σ H E I hf st hg;subst hP hw hK;obtain ⟨xs,hq,hx⟩:=hg;obtain ⟨its,rv,p,hz⟩:=I.list hq;obtain ⟨f0,f1,f2,f3,f4,f5⟩:=hf it (by simp);have hl:=rv.length;exact wpAny_pyNext_list_end (I.ok.hd hc) st p.isList (by simp;omega) fun h' eb=>⟨rfl,I.turned (t':=s.toks) (fun b o hb e=>eb b o hb e) f0 f1 f3 f4 f5⟩
 self:=fun _ _ _ _ _ st h=>wpAny_pyIter_listiter st h
theorem wo (a it:Addr):Turn P w K tg (FQ K a) [it] it (fun i h=>h.IsTupleIter it a i) where
 mem:=by simp
 obj:=fun i h st b hb=>by
  have e:b = it:=by simpa using hb
  subst e;obtain ⟨o,e,c,d⟩:=st;exact ⟨o,e,fun v z=>by rw [d] at z;cases z⟩
 keep:=fun i h h' st k=>st.at fun o e=>k it (by simp) o e
 item:=by
  intro X hP hw hK hc i pins s σ H E I hf st hg;subst hP hw hK;obtain ⟨xs,x,hq,hx⟩:=hg;obtain ⟨its,rv,p,hz⟩:=I.tuple hq;obtain ⟨u,hu,ru⟩:=rv.get hx;obtain ⟨f0,f1,f2,f3,f4,f5⟩:=hf it (by simp);refine wpAny_pyNext_tuple_item st (show s.heap.IsTuple a its.toArray from p) (x:=u) (by simpa using hu) fun h' bA sb=>?_
  have I1:Inv X pins σ H { s with heap:=h' }:=I.turned (t':=s.toks) (fun b o hb e=>(sb.2 b hb).trans e) f0 f1 f3 f4 f5
  obtain ⟨o,e,c,d⟩:=id bA;exact ⟨u,rfl,yB (s:={ s with heap:=h' }) e c d (by decide) ⟨x,H,I1,ru,⟨rfl,fun ys hy=>by rw [I.tuple_inj hy hq];exact hx⟩,bA,fun b hb=>(hf b hb).1⟩⟩
 done:=by
  intro X hP hw hK hc i pins s σ H E I hf st hg;subst hP hw hK;obtain ⟨xs,hq,hx⟩:=hg;obtain ⟨its,rv,p,hz⟩:=I.tuple hq;obtain ⟨f0,f1,f2,f3,f4,f5⟩:=hf it (by simp);have hl:=rv.length;exact wpAny_pyNext_tuple_end (I.ok.hd hc) st (show s.heap.IsTuple a its.toArray from p) (by simp;omega) fun h' eb=>⟨rfl,I.turned (t':=s.toks) (fun b o hb e=>eb b o hb e) f0 f1 f3 f4 f5⟩
 self:=fun _ _ _ _ _ st h=>wpAny_pyIter_tupleiter st h
theorem wq (it:Addr) (lo:Int) (n:Nat):Turn P w K tg (Av lo n) [it] it (fun i h=>IsRangeIter h it (lo + (i:Nat) * 1) ((n:Int) - (i:Nat)) 1) where
 mem:=by simp
 obj:=fun i h st b hb=>by
  have e:b = it:=by simpa using hb
  subst e;exact ⟨_,st,fun v z=>by
   have z':Data.fields _ = Data.cell v:=z
   cases z'⟩
 keep:=fun i h h' st k=>k it (by simp) _ st
 item:=by
  intro X hP hw hK hc i pins s σ H E I hf st hg;subst hP hw hK;obtain ⟨f0,f1,f2,f3,f4,f5⟩:=hf it (by simp);have W:=Walks.range (prog:=X.prog) (w:=X.w) (I.ok.hd hc) it lo 1 n;refine W.item i s _ _ hg st fun v h' tk hv bA kk=>?_
  obtain ⟨t,rfl⟩:=hv;have I1:Inv X pins σ H { s with heap:=h',toks:=tk }:=I.turned (fun b o hb e=>kk b o (by simpa using hb) e) f0 f1 f3 f4 f5
  refine ⟨_,rfl,yB (s:={ s with heap:=h',toks:=tk }) (n:="range_iterator") bA rfl rfl (by decide) ⟨.int (lo + i),H,I1,⟨t,?_⟩,⟨rfl,rfl⟩,bA,fun b hb=>(hf b hb).1⟩⟩
  rw [Int.mul_one]
 done:=by
  intro X hP hw hK hc i pins s σ H E I hf st hg;subst hP hw hK;obtain ⟨f0,f1,f2,f3,f4,f5⟩:=hf it (by simp);exact wpAny_pyNext_range_end (I.ok.hd hc) st (by have:n <= i:=hg;omega) fun h' eb=>⟨rfl,I.turned (t':=s.toks) (fun b o hb e=>eb b o hb e) f0 f1 f3 f4 f5⟩
 self:=fun _ _ _ _ _ st h=>wpAny_pyIter_rangeiter st h
section
def CH (K:W.Frag) (tl:TE):TI:=fun σ H R=>tl σ H fun x H1=>∃ a,x = .ref a/\(∃ xs,SqL K H1 a xs)/\R (FR K a) H1
def Jp (K:W.Frag) (tl:TE):TI:=fun σ H R=>tl σ H fun x H1=>∃ a,x = .ref a/\(∃ xs,SqT K H1 a xs)/\R (FQ K a) H1
theorem EE {l:Expr} {tl:TE} (hl:PE X l tl):PI X tg l (CH X.K tl):=by
 intro pins s σ H R I h;refine cz (hl pins s σ H _ I h) fun v s1 ⟨x,H1,I1,r1,q1⟩=>?_
 obtain ⟨a,e,⟨xs,hq⟩,q⟩:=q1;subst e
 cases r1
 obtain ⟨its,rv,p,hz⟩:=I1.list hq;refine wpAny_pyIter_list p.isList ?_;refine ⟨s1.heap.objs.size,[s1.heap.objs.size],_,_,H1,rfl,I1.kept (t':=s1.toks) fun b o e=>Heap.get?_push_of_some _ e,yT a _,⟨_,Heap.get?_push_size _ rfl,rfl,rfl⟩,fun b hb=>?_,q⟩
 have e:b = s1.heap.objs.size:=by simpa using hb
 subst e;exact I1.fpOk (Nat.le_refl _) (I1.hok.fresh (Nat.le_refl _))
theorem IB {l:Expr} {tl:TE} (hl:PE X l tl):PI X tg l (Jp X.K tl):=by
 intro pins s σ H R I h;refine cz (hl pins s σ H _ I h) fun v s1 ⟨x,H1,I1,r1,q1⟩=>?_
 obtain ⟨a,e,⟨xs,hq⟩,q⟩:=q1;subst e
 cases r1
 obtain ⟨its,rv,p,hz⟩:=I1.tuple hq;refine wpAny_pyIter_tuple (show s1.heap.IsTuple a its.toArray from p) ?_;refine ⟨s1.heap.objs.size,[s1.heap.objs.size],_,_,H1,rfl,I1.kept (t':=s1.toks) fun b o e=>Heap.get?_push_of_some _ e,wo a _,⟨_,Heap.get?_push_size _ rfl,rfl,rfl⟩,fun b hb=>?_,q⟩
 have e:b = s1.heap.objs.size:=by simpa using hb
 subst e;exact I1.fpOk (Nat.le_refl _) (I1.hok.fresh (Nat.le_refl _))
theorem uw {R : It -> Hp -> Prop} {E : Value -> Shared -> Prop} {lo hi : Int} {t u v : Tok} {tk : Nat} (I : Inv X pins σ H s) (h1 : -(2 ^ 62) <= lo) (h2 : lo < 2 ^ 62) (h3 : -(2 ^ 62) <= hi) (h4 : hi < 2 ^ 62)
    (q:R (Av lo (hi - lo).toNat) H):wpAny (model X.prog X.w) X.A (pyIter (.ref s.heap.objs.size)) (Z1 X pins σ tg R) E { s with heap:=s.heap.push { cls:=.type "range",data:=.fields #[.int lo t,.int hi u,.int 1 v] },toks:=tk }:=by
 refine wpAny_pyIter_range (IsRange.new ..) (small_one h1 h2 h3 h4) ?_;have I1:Inv X pins σ H { s with heap:=s.heap.push { cls:=.type "range",data:=.fields #[.int lo t,.int hi u,.int 1 v] },toks:=tk }:=I.kept fun b o e=>Heap.get?_push_of_some _ e
 refine ⟨(s.heap.push { cls:=.type "range",data:=.fields #[.int lo t,.int hi u,.int 1 v] }).objs.size,[(s.heap.push { cls:=.type "range",data:=.fields #[.int lo t,.int hi u,.int 1 v] }).objs.size],_,_,H,rfl,
  I1.kept (t':=tk) fun b o e=>Heap.get?_push_of_some _ e,wq _ lo (hi - lo).toNat,?_,fun b hb=>?_,q⟩
 ·have e1:lo + ((0:Nat):Int) * 1 = lo:=by simp
  have e2:(((hi - lo).toNat:Nat):Int) - ((0:Nat):Int) = Builtin.Range.rangeSize lo hi 1:=by rw [rangeSize_one];split <;> omega
  show IsRangeIter _ _ (lo + ((0:Nat):Int) * 1) ((((hi - lo).toNat:Nat):Int) - ((0:Nat):Int)) 1;rw [e1,e2];exact Heap.get?_push_size _ rfl
 ·have e:b = (s.heap.push { cls:=.type "range",data:=.fields #[.int lo t,.int hi u,.int 1 v] }).objs.size:=by simpa using hb
  subst e;exact I1.fpOk (Nat.le_refl _) (I1.hok.fresh (Nat.le_refl _))
def yp (ta:TA):TI:=fun σ H R=>ta σ H fun vs H1=>∃ j:Int,vs = [.int j]/\-(2 ^ 62) <= j/\j < 2 ^ 62/\R (Av 0 j.toNat) H1
def yo (ta:TA):TI:=fun σ H R=>ta σ H fun vs H1=>∃ i j:Int,vs = [.int i,.int j]/\(-(2 ^ 62) <= i/\i < 2 ^ 62/\-(2 ^ 62) <= j/\j < 2 ^ 62)/\R (Av i (j - i).toNat) H1
theorem zl {a:Expr} {ta:TA} (hg:Gl X "range") (hm:X.mg "range" = none) (ha:PA X [a] ta) (hs:starEach [a] X.env = [(false,eval a X.env)]:=by rfl):PI X tg (.Call (.Name "range" p) [a] [] pos) (yp ta):=by
 intro pins s σ H R I h;refine Call_ (lI I hg hm boot_range (PyProof.Rows.callWith_type1 (cz (ha pos pins s σ H _ I h) fun us s1 ⟨vs,H1,I1,r1,q1⟩=>?_) hs rfl))
 obtain ⟨j,e,q1,q2,q⟩:=q1;subst e
 cases r1 with
 | cons r rr =>
  cases rr
  obtain ⟨t,rfl⟩:=r;exact call_range_1 (uw I1 (by omega) (by omega) q1 q2 (by simpa using q))
theorem zk {a b : Expr} {ta : TA} {p pos : Pos} (hg : Gl X "range") (hm : X.mg "range" = none) (ha : PA X [a, b] ta) (hs : starEach [a, b] X.env = [(false, eval a X.env), (false, eval b X.env)] := by rfl) (Zg : starEach [b] X.env = [(false, eval b X.env)] := by rfl) :
    PI X tg (.Call (.Name "range" p) [a,b] [] pos) (yo ta):=by
 intro pins s σ H R I h;refine Call_ (lI I hg hm boot_range (PyProof.Rows.callWith_type1 (cz (ha pos pins s σ H _ I h) fun us s1 ⟨vs,H1,I1,r1,q1⟩=>?_) (by rw [hs,Zg]) (by rw [Zg];rfl)))
 obtain ⟨i,j,e,⟨q1,q2,q3,q4⟩,q⟩:=q1;subst e
 cases r1 with
 | cons r rr =>
  cases rr with
  | cons r' rr =>
   cases rr
   obtain ⟨t,rfl⟩:=r;obtain ⟨t',rfl⟩:=r';exact call_range_2 (uw I1 q1 q2 q3 q4 q)
def Hf (wi:TI) (g:TG) (tb:TS):TS:=fun D σ H=>wi σ H fun J H1=>∃ W:Nat->Nat->St->Hp->Prop,(∃ m,W 0 m σ H1)/\∀ i m σ H,W i m σ H ->
 (J.stop i H/\D.nx σ H) \/ (J.go i H/\∃ N:St->Hp->Prop,(∀ σ' H',N σ' H'->∃ m',m' < m/\W (i + 1) m' σ' H')/\∀ x H',J.yld i H x H'->g x σ H' fun σ2 H2=>tb { D with nx:=N,ct:=N,bk:=D.nx } σ2 H2)
def fe (fp:List Addr) (h:Heap):List (Addr × Obj):=fp.filterMap fun b=>(h.get? b).map fun o=>(b,o)
theorem eE {o:Obj} (hb:b ∈ fp) (e:h.get? b = some o):(b,o) ∈ fe fp h:=List.mem_filterMap.mpr ⟨b,hb,by rw [e];rfl⟩
theorem lF {p:Addr × Obj} (hp:p ∈ fe fp h):p.1 ∈ fp/\h.get? p.1 = some p.2:=by
 obtain ⟨b,hb,e⟩:=List.mem_filterMap.mp hp
 cases q:h.get? b with
 | none=>rw [q] at e;cases e
 | some o =>
  rw [q] at e;have e':(b,o) = p:=Option.some.inj e;subst e';exact ⟨hb,q⟩
theorem Inv.pinned (I:Inv X pins σ H s) (hf:∀ b ∈ fp,FpOk X pins H b) (ho:∀ b ∈ fp,∃ o,s.heap.get? b = some o/\∀ v,o.data ≠ .cell v):Inv X (pins ++ fe fp s.heap) σ H s :=
 I.pins_of fun p hp=>(List.mem_append.mp hp).elim (fun z=>I.pin p (List.mem_append_right _ z)) fun z=>by
  obtain ⟨hb,e⟩:=lF z;obtain ⟨f0,f1,f2,_⟩:=hf p.1 hb;obtain ⟨o,e',d⟩:=ho p.1 hb;rw [e] at e';cases e';exact ⟨e,f0,f1,f2,d⟩
theorem Inv.unpinned {pl:List (Addr × Obj)} (I:Inv X (pins ++ pl) σ H s):Inv X pins σ H s:=I.pins_of fun p hp=>I.pin p (List.mem_append_right _ (List.mem_append_left _ hp))
theorem Iy {iter : Expr} {body : List Stmt} {wi : TI} (hp : PassesOwn (model X.prog X.w) X.A X.env X.xe) (hc : X.calm = true) (hi : PI X tg iter wi) (hg : PG X tg g) (hb : PSs X body tb)
    (hs:∀ x,foldedSetIterable iter X.env x = pure x:=by intro _;rfl):PS X (.For tg iter body [] pos) (Hf wi g tb):=by
 intro pins s σ H D I h;refine wpAny_For (cz (hi pins s σ H _ I h) fun v s1 h1=>cz h1 fun NU s2 h2=>?_) hs
 obtain ⟨it,fp,tn,J,H2,e,I2,T,DY,f2,W,⟨m0,w0⟩,turn⟩:=h2;subst e;have nB:∀ {H':Hp},(∀ b ∈ fp,H' b = none)->∀ b ∈ fp,FpOk X pins H' b:=fun hn b hb=>⟨hn b hb,(f2 b hb).2⟩
 refine codeAny_forLoop_any (fun n s'=>∃ i σ' H',Inv X pins σ' H' s'/\tn i s'.heap/\(∀ b ∈ fp,H' b = none)/\W i n σ' H') ?_ m0 ⟨0,σ,H2,I2,DY,fun b hb=>(f2 b hb).1,w0⟩
 rintro n s3 ⟨i,σ3,H3,I3,FX,ZG,w3⟩
 rcases turn i n σ3 H3 w3 with ⟨stop,qn⟩ | ⟨go,N,hN,step⟩
 ·refine wpAny_passesOwn hp (cz (T.done X rfl rfl rfl hc i pins s3 σ3 H3 X.xe I3 (nB ZG) FX stop) fun r s4 ⟨hr,I4⟩=>?_)
  subst hr;exact wpAny_execs_nil ⟨σ3,H3,I4,qn⟩
 ·refine wpAny_passesOwn hp (cz (T.item X rfl rfl rfl hc i pins s3 σ3 H3 X.xe I3 (nB ZG) FX go) fun r s4 ⟨u,hr,h4⟩=>?_)
  subst hr;refine wpAny_passesOwn hp (cz h4 fun _ s5 ⟨x,H5,I5,r5,y5,OA,fr5⟩=>?_);have I5':=I5.pinned (nB fr5) (T.obj _ _ OA);refine wpAny_passesOwn hp (cz (hg _ s5 σ3 H5 x u _ I5' r5 (step x H5 y5)) fun _ s6 ⟨σ6,H6,I6,q6⟩=>?_)
  refine wpAny_passesOwn hp (cz (hb _ s6 σ6 H6 _ I6 q6) fun f s7 q7=>?_)
  have again:∀ {σ7:St} {H7:Hp},Inv X (pins ++ fe fp s5.heap) σ7 H7 s7->N σ7 H7->∃ m,m < n/\∃ i σ' H',Inv X pins σ' H' s7/\tn i s7.heap/\(∀ b ∈ fp,H' b = none)/\W i m σ' H':=fun {σ7 H7} I7 n7=>by
   obtain ⟨m',hm,w7⟩:=hN σ7 H7 n7;refine ⟨m',hm,i + 1,σ7,H7,I7.unpinned,T.keep _ _ _ OA fun b hb o e=>(I7.pin (b,o) (List.mem_append_right _ (List.mem_append_right _ (eE hb e)))).1,fun b hb=>?_,w7⟩
   obtain ⟨o,e,d⟩:=T.obj _ _ OA b hb;exact (I7.pin (b,o) (List.mem_append_right _ (List.mem_append_right _ (eE hb e)))).2.1
  cases f with
  | next=>obtain ⟨σ7,H7,I7,n7⟩:=q7;exact again I7 n7
  | cont=>obtain ⟨σ7,H7,I7,n7⟩:=q7;exact again I7 n7
  | brk=>obtain ⟨σ7,H7,I7,q7⟩:=q7;exact ⟨σ7,H7,I7.unpinned,q7⟩
  | ret v=>obtain ⟨x7,σ7,H7,I7,r7,q7⟩:=q7;exact ⟨x7,σ7,H7,I7.unpinned,r7,q7⟩
end
theorem CV (Pv : Nat -> St -> Hp -> Prop) (h0 : Pv 0 σ H) (hl : ∀ i σ H, i <= xs.length -> Pv i σ H -> SqL K H a xs)
    (hs:∀ i x σ H,xs[i]? = some x->Pv i σ H->g x σ H fun σ2 H2=>tb { D with nx:=Pv (i + 1),ct:=Pv (i + 1),bk:=D.nx } σ2 H2) (hd:∀ σ H,Pv xs.length σ H->D.nx σ H) :
    ∃ W:Nat->Nat->St->Hp->Prop,(∃ m,W 0 m σ H)/\∀ i m σ H,W i m σ H ->
     ((FR K a).stop i H/\D.nx σ H) \/ ((FR K a).go i H/\∃ N:St->Hp->Prop,(∀ σ' H',N σ' H'->∃ m',m' < m/\W (i + 1) m' σ' H')/\∀ x H',(FR K a).yld i H x H'->g x σ H' fun σ2 H2=>tb { D with nx:=N,ct:=N,bk:=D.nx } σ2 H2):=by
 refine ⟨fun i m σ H=>m = xs.length - i/\i <= xs.length/\Pv i σ H,⟨xs.length,by simp,Nat.zero_le _,h0⟩,?_⟩
 rintro i m σ H ⟨rfl,hi,p⟩;have q:=hl i σ H hi p
 by_cases ed:i < xs.length
 ·refine .inr ⟨⟨xs,xs[i],q,by simp [ed]⟩,Pv (i + 1),fun σ' H' p'=>⟨xs.length - (i + 1),by omega,rfl,ed,p'⟩,fun x H' y=>?_⟩
  obtain ⟨e,y⟩:=y;subst e;exact hs i x σ _ (y xs q) p
 ·have e:i = xs.length:=by omega
  subst e;exact .inl ⟨⟨xs,q,Nat.le_refl _⟩,hd σ H p⟩
theorem Fw (Pv : Nat -> St -> Hp -> Prop) (h0 : Pv 0 σ H) (hl : ∀ i σ H, i <= xs.length -> Pv i σ H -> SqT K H a xs)
    (hs:∀ i x σ H,xs[i]? = some x->Pv i σ H->g x σ H fun σ2 H2=>tb { D with nx:=Pv (i + 1),ct:=Pv (i + 1),bk:=D.nx } σ2 H2) (hd:∀ σ H,Pv xs.length σ H->D.nx σ H) :
    ∃ W:Nat->Nat->St->Hp->Prop,(∃ m,W 0 m σ H)/\∀ i m σ H,W i m σ H ->
     ((FQ K a).stop i H/\D.nx σ H) \/ ((FQ K a).go i H/\∃ N:St->Hp->Prop,(∀ σ' H',N σ' H'->∃ m',m' < m/\W (i + 1) m' σ' H')/\∀ x H',(FQ K a).yld i H x H'->g x σ H' fun σ2 H2=>tb { D with nx:=N,ct:=N,bk:=D.nx } σ2 H2):=by
 refine ⟨fun i m σ H=>m = xs.length - i/\i <= xs.length/\Pv i σ H,⟨xs.length,by simp,Nat.zero_le _,h0⟩,?_⟩
 rintro i m σ H ⟨rfl,hi,p⟩;have q:=hl i σ H hi p
 by_cases ed:i < xs.length
 ·refine .inr ⟨⟨xs,xs[i],q,by simp [ed]⟩,Pv (i + 1),fun σ' H' p'=>⟨xs.length - (i + 1),by omega,rfl,ed,p'⟩,fun x H' y=>?_⟩
  obtain ⟨e,y⟩:=y;subst e;exact hs i x σ _ (y xs q) p
 ·have e:i = xs.length:=by omega
  subst e;exact .inl ⟨⟨xs,q,Nat.le_refl _⟩,hd σ H p⟩
theorem zX {lo : Int} {n : Nat} (Pv : Nat -> St -> Hp -> Prop) (h0 : Pv 0 σ H)
    (hs:∀ i σ H,i < n->Pv i σ H->g (.int (lo + i)) σ H fun σ2 H2=>tb { D with nx:=Pv (i + 1),ct:=Pv (i + 1),bk:=D.nx } σ2 H2) (hd:∀ σ H,Pv n σ H->D.nx σ H) :
    ∃ W:Nat->Nat->St->Hp->Prop,(∃ m,W 0 m σ H)/\∀ i m σ H,W i m σ H ->
     ((Av lo n).stop i H/\D.nx σ H) \/ ((Av lo n).go i H/\∃ N:St->Hp->Prop,(∀ σ' H',N σ' H'->∃ m',m' < m/\W (i + 1) m' σ' H')/\∀ x H',(Av lo n).yld i H x H'->g x σ H' fun σ2 H2=>tb { D with nx:=N,ct:=N,bk:=D.nx } σ2 H2):=by
 refine ⟨fun i m σ H=>m = n - i/\i <= n/\Pv i σ H,⟨n,by simp,Nat.zero_le _,h0⟩,?_⟩
 rintro i m σ H ⟨rfl,hi,p⟩
 by_cases ed:i < n
 ·refine .inr ⟨ed,Pv (i + 1),fun σ' H' p'=>⟨n - (i + 1),by omega,rfl,ed,p'⟩,fun x H' y=>?_⟩
  obtain ⟨e,y⟩:=y;subst e y;exact hs i σ _ ed p
 ·have e:i = n:=by omega
  subst e;exact .inl ⟨Nat.le_refl _,hd σ H p⟩
abbrev R2:=V->V->Hp->VK->Prop
variable {r r':R2}
def OpR (X:Cx) (f:Value->Value->Sem Value) (r:R2):Prop :=
 ∀ (pins:List (Addr × Obj)) (s:Shared) (σ:St) (H:Hp) (x y:V) (v u:Value) (Q:VK),Inv X pins σ H s->RelV x v->RelV y u->r x y H Q ->
  wpAny (model X.prog X.w) X.A (f v u) (EP X pins σ Q) X.xe s
def Od (X:Cx) (f:Value->Sem Value) (r:V->Hp->VK->Prop):Prop :=
 ∀ (pins:List (Addr × Obj)) (s:Shared) (σ:St) (H:Hp) (x:V) (v:Value) (Q:VK),Inv X pins σ H s->RelV x v->r x H Q ->
  wpAny (model X.prog X.w) X.A (f v) (EP X pins σ Q) X.xe s
def cN (X:Cx) (f:Value) (r:List V->Hp->VK->Prop):Prop :=
 ∀ (pins:List (Addr × Obj)) (s:Shared) (σ:St) (H:Hp) (xs:List V) (us:List Value) (Q:VK),Inv X pins σ H s->Vals xs us->r xs H Q ->
  wpAny (model X.prog X.w) X.A (call f us) (EP X pins σ Q) X.xe s
def An (r:R2) (ta tb:TE):TE:=fun σ H Q=>ta σ H fun x H1=>tb σ H1 fun y H2=>r x y H2 Q
def Ox (r:V->Hp->VK->Prop) (ta:TE):TE:=fun σ H Q=>ta σ H fun x H1=>r x H1 Q
def rI (C:Int->Int->Prop) (g:Int->Int->V):R2:=fun x y H Q=>∃ i j,x = .int i/\y = .int j/\C i j/\Q (g i j) H
def zh (g:Int->Int->V):R2:=fun x y H Q=>∃ i j,x = .int i/\y = .int j/\Q (g i j) H
def rU (g:Int->V):V->Hp->VK->Prop:=fun x H Q=>∃ i,x = .int i/\Q (g i) H
section
variable {a b:Expr} {tb tc:TE}
theorem JT (ha : PE X a ta) (hb : PE X b tb) {R : V -> V -> Hp -> Prop} (I : Inv X pins σ H s)
    (h:ta σ H fun x H1=>tb σ H1 fun y H2=>R x y H2) {Q:Value->Shared->Prop} {f:Value->Value->Sem Value}
    (hf:∀ v u s2 x y H2,Inv X pins σ H2 s2->RelV x v->RelV y u->R x y H2->wpAny (model X.prog X.w) X.A (f v u) Q X.xe s2) :
    wpAny (model X.prog X.w) X.A (eval a X.env) (fun v s₁=>wpAny (model X.prog X.w) X.A (eval b X.env) (fun u s₂=>wpAny (model X.prog X.w) X.A (f v u) Q X.xe s₂) X.xe s₁) X.xe s:=by
 refine cz (ha pins s σ H _ I h) fun v s1 ⟨x,H1,I1,r1,q1⟩=>?_
 refine cz (hb pins s1 σ H1 _ I1 q1) fun u s2 ⟨y,H2,I2,r2,q2⟩=>?_
 exact hf v u s2 x y H2 I2 r1 r2 q2
theorem Lf {op:Operator} (ho:OpR X (binaryOp op) r) (ha:PE X a ta) (hb:PE X b tb):PE X (.BinOp a op b pos) (An r ta tb):=by
 intro pins s σ H Q I h;exact wpAny_BinOp (JT ha hb I h fun v u s2 x y H2 I2 rx ry q=>ho pins s2 σ H2 x y v u Q I2 rx ry q)
theorem Lc {op:UnaryOp} {r:V->Hp->VK->Prop} (ho:Od X (unaryOp op) r) (ha:PE X a ta):PE X (.UnaryOp op a pos) (Ox r ta):=by
 intro pins s σ H Q I h;exact UnaryOp_ (cz (ha pins s σ H _ I h) fun v s1 ⟨x,H1,I1,r1,q1⟩=>ho pins s1 σ H1 x v Q I1 r1 q1)
theorem Lp {f : Value -> Value -> Sem Value} {C : Int -> Int -> Prop} {g : Int -> Int -> Int}
    (rule:∀ (i j:Int) (t u:Tok) (s:Shared) (Q:Value->Shared->Prop) (E:Value->Shared->Prop),C i j->Q (.int (g i j) s.toks) { s with toks:=s.toks + 1 }->wpAny (model X.prog X.w) X.A (f (.int i t) (.int j u)) Q E s) :
    OpR X f (rI C fun i j=>.int (g i j)):=by
 intro pins s σ H x y v u Q I rx ry h;obtain ⟨i,j,rfl,rfl,hc,q⟩:=h;obtain ⟨t,rfl⟩:=rx;obtain ⟨t',rfl⟩:=ry;exact rule i j t t' s _ _ hc ⟨.int (g i j),H,I.tok _,⟨_,rfl⟩,q⟩
theorem EX {f : Value -> Value -> Sem Value} {g : Int -> Int -> Int}
    (rule:∀ (i j:Int) (t u:Tok) (s:Shared) (Q:Value->Shared->Prop) (E:Value->Shared->Prop),Q (.int (g i j) s.toks) { s with toks:=s.toks + 1 }->wpAny (model X.prog X.w) X.A (f (.int i t) (.int j u)) Q E s) :
    OpR X f (zh fun i j=>.int (g i j)):=by
 intro pins s σ H x y v u Q I rx ry h;obtain ⟨i,j,rfl,rfl,q⟩:=h;obtain ⟨t,rfl⟩:=rx;obtain ⟨t',rfl⟩:=ry;exact rule i j t t' s _ _ ⟨.int (g i j),H,I.tok _,⟨_,rfl⟩,q⟩
theorem IV {f : Value -> Value -> Sem Value} {g : Int -> Int -> Bool}
    (rule:∀ (i j:Int) (t u:Tok) (s:Shared) (Q:Value->Shared->Prop) (E:Value->Shared->Prop),Q (.bool (g i j)) s->wpAny (model X.prog X.w) X.A (f (.int i t) (.int j u)) Q E s) :
    OpR X f (zh fun i j=>.bl (g i j)):=by
 intro pins s σ H x y v u Q I rx ry h;obtain ⟨i,j,rfl,rfl,q⟩:=h;obtain ⟨t,rfl⟩:=rx;obtain ⟨t',rfl⟩:=ry;exact rule i j t t' s _ _ ⟨.bl (g i j),H,I,rfl,q⟩
def NC (i j:Int):Prop:=0 < j/\j < 1073741824
def CMul (i j:Int):Prop:=(-(2 ^ 64) < i/\i < 2 ^ 64) \/ (-(2 ^ 64) < j/\j < 2 ^ 64)
theorem CMul.ok {i j:Int} (h:CMul i j):IntMulOk i j:=by
 rcases h with ⟨h1,h2⟩ | ⟨h1,h2⟩
 ·exact .of_left (intBits_le_64 h1 h2)
 ·exact .of_right (intBits_le_64 h1 h2)
theorem wm (k:Nat):(0:Int) <= 2 ^ k:=by
 rw [two_pow_cast];exact Int.natCast_nonneg _
theorem IU:OpR X (binaryOp .Add) (zh fun i j=>.int (i + j)):=EX fun _ _ _ _ _ _ _ q=>add_int q
theorem iQ:OpR X (binaryOp .Sub) (zh fun i j=>.int (i - j)):=EX fun _ _ _ _ _ _ _ q=>sub_int q
theorem IM:OpR X (binaryOp .Mult) (rI CMul fun i j=>.int (i * j)):=Lp fun _ _ _ _ _ _ _ hc q=>mul_int q hc.ok
theorem bj:OpR X (binaryOp .FloorDiv) (rI NC fun i j=>.int (i / j)):=Lp fun i j _ _ _ _ _ hc q=>by
 have h1:(0:Int) < j:=hc.1;have h2:j < 1073741824:=hc.2;exact floordiv_int (by omega) (by rw [Int.fdiv_eq_ediv_of_nonneg i (by omega)];exact q) (.inl (PyProof.noPylong_small (by omega)))
theorem aM:OpR X (binaryOp .Mod) (rI (fun _ j=>0 < j) fun i j=>.int (i % j)):=Lp fun i j _ _ _ _ _ hc q=>by
 have h1:(0:Int) < j:=hc;exact mod_int' (by omega) (by rw [Int.fmod_eq_emod_of_nonneg i (by omega)];exact q)
theorem Cd:OpR X (binaryOp .RShift) (rI (fun _ j=>0 <= j) fun i j=>.int (i / 2 ^ j.toNat)):=Lp fun i j _ _ _ _ _ hc q =>
 rshift_int hc (by rw [Int.fdiv_eq_ediv_of_nonneg i (wm _)];exact q)
theorem IT:OpR X (binaryOp .BitAnd) (zh fun i j=>.int (Builtin.bitAnd i j)):=EX fun _ _ _ _ _ _ _ q=>and_int q
theorem Lm:OpR X (binaryOp .BitOr) (zh fun i j=>.int (Builtin.bitOr i j)):=EX fun _ _ _ _ _ _ _ q=>or_int q
theorem unI {f : Value -> Sem Value} {g : Int -> Int}
    (rule:∀ (i:Int) (t:Tok) (s:Shared) (Q:Value->Shared->Prop) (E:Value->Shared->Prop),Q (.int (g i) s.toks) { s with toks:=s.toks + 1 }->wpAny (model X.prog X.w) X.A (f (.int i t)) Q E s) :
    Od X f (rU fun i=>.int (g i)):=by
 intro pins s σ H x v Q I rx h;obtain ⟨i,rfl,q⟩:=h;obtain ⟨t,rfl⟩:=rx;exact rule i t s _ _ ⟨.int (g i),H,I.tok _,⟨_,rfl⟩,q⟩
theorem wk:Od X (unaryOp .USub) (rU fun i=>.int (-i)):=unI fun _ _ _ _ _ q=>neg_int q
end
section
variable {a b:Expr} {tb tc:TE}
theorem oH {k k':Bool} (I:Inv X pins σ H s) (q:Q (.bl k) H) (e:k = k'):EP X pins σ Q (.bool k') s:=by
 subst e;exact ⟨.bl k,H,I,rfl,q⟩
theorem Ln:OpR X (compareOp .Lt) (zh fun i j=>.bl (decide (i < j))):=IV fun _ _ _ _ _ _ _ q=>lt_int q
theorem Lo:OpR X (compareOp .LtE) (zh fun i j=>.bl (decide (i <= j))):=IV fun _ _ _ _ _ _ _ q=>le_int q
theorem nX:OpR X (compareOp .Gt) (zh fun i j=>.bl (decide (j < i))):=IV fun _ _ _ _ _ _ _ q=>gt_int q
theorem zq:OpR X (compareOp .Lt) (fun x y H Q=>∃ i j,x = .str i/\y = .str j/\Q (.bl (decide (i.cps.toList < j.cps.toList))) H):=by
 intro pins s σ H x y v u Q I rx ry h;obtain ⟨i,j,rfl,rfl,q⟩:=h;obtain ⟨t,rfl⟩:=rx;obtain ⟨t',rfl⟩:=ry;exact lt_str (oH I q rfl)
theorem qA:OpR X (compareOp .In) (fun x y H Q=>∃ i j,x = .str i/\y = .str j/\Q (.bl (!(Builtin.Str.occurrences j i 0 j.length 1).isEmpty)) H):=by
 intro pins s σ H x y v u Q I rx ry h;obtain ⟨i,j,rfl,rfl,q⟩:=h;obtain ⟨t,rfl⟩:=rx;obtain ⟨t',rfl⟩:=ry;exact in_str (oH I q rfl)
theorem IQ:OpR X (compareOp .Is) (fun x y H Q=>y = .non/\Q (.bl (decide (x = .non))) H):=by
 intro pins s σ H x y v u Q I rx ry h;obtain ⟨rfl,q⟩:=h
 cases ry
 refine is_none_gen (oH I q ?_)
 cases x <;> first
  | (cases rx;rfl)
  | (obtain ⟨t,rfl⟩:=rx;rfl)
theorem EV:OpR X (compareOp .IsNot) (fun x y H Q=>y = .non/\Q (.bl (!decide (x = .non))) H):=by
 intro pins s σ H x y v u Q I rx ry h;obtain ⟨rfl,q⟩:=h
 cases ry
 refine isnot_none_gen (oH I q ?_)
 cases x <;> first
  | (cases rx;rfl)
  | (obtain ⟨t,rfl⟩:=rx;rfl)
theorem OpR.or {f:Value->Value->Sem Value} (h:OpR X f r) (h':OpR X f r'):OpR X f (fun x y H Q=>r x y H Q \/ r' x y H Q):=by
 intro pins s σ H x y v u Q I rx ry q
 rcases q with q | q
 ·exact h pins s σ H x y v u Q I rx ry q
 ·exact h' pins s σ H x y v u Q I rx ry q
theorem au (b:Expr) (h:op ≠ .In:=by decide) (h2:op ≠ .NotIn:=by decide):behindInMarks op b = false:=by
 have e1:(op == CmpOp.In) = false:=by cases op <;> first | rfl | exact absurd rfl h
 have e2:(op == CmpOp.NotIn) = false:=by cases op <;> first | rfl | exact absurd rfl h2
 cases b <;> simp [behindInMarks,e1,e2]
theorem EN (ho:OpR X (compareOp op) r) (ha:PE X a ta) (hb:PE X b tb) (hm:behindInMarks op b = false):PE X (.Compare a [op] [b] pos) (An r ta tb):=by
 intro pins s σ H Q I h;exact wpAny_Compare1 (JT ha hb I h fun v u s2 x y H2 I2 rx ry q=>ho pins s2 σ H2 x y v u Q I2 rx ry q) hm
def tQ (t:TE):TT:=fun σ H Q=>t σ H fun x H'=>∃ k,x = .bl k/\Q k H'
theorem Eu (ho:OpR X (compareOp op) r) (ha:PE X a ta) (hb:PE X b tb) (hm:behindInMarks op b = false):PT X (.Compare a [op] [b] pos) (tQ (An r ta tb)):=by
 intro pins s σ H Q I h;refine wpAny_isTrue_Compare1 (cz (ha pins s σ H _ I h) fun v s1 ⟨x,H1,I1,r1,q1⟩=>cz (hb pins s1 σ H1 _ I1 q1) fun u s2 ⟨y,H2,I2,r2,q2⟩ =>
  cz (ho pins s2 σ H2 x y v u _ I2 r1 r2 q2) fun c s3 ⟨z,H3,I3,r3,k,e,q3⟩=>?_) hm
 subst e
 cases r3
 exact wpAny_truthy_bool ⟨H3,I3,q3⟩
def nz (r r':R2) (ta tb tc:TE):TE:=fun σ H Q=>ta σ H fun x H1=>tb σ H1 fun y H2=>r x y H2 fun z H3=>∃ k,z = .bl k /\
 (if k = true then tc σ H3 fun w' H4=>r' y w' H4 Q else Q (.bl false) H3)
theorem B5 {w5 : CmpOp} (ho : OpR X (compareOp op) r) (vj : OpR X (compareOp w5) r') (ha : PE X a ta) (hb : PE X b tb) (hc : PE X c tc)
    (hm:lastMarks [op,w5] [b,c] = false:=by with_unfolding_all rfl):PE X (.Compare a [op,w5] [b,c] pos) (nz r r' ta tb tc):=by
 intro pins s σ H Q I h;refine Compare_chain (cz (ha pins s σ H _ I h) fun v s1 ⟨x,H1,I1,r1,q1⟩=>chain_link (cz (hb pins s1 σ H1 _ I1 q1) fun u s2 ⟨y,H2,I2,r2,q2⟩ =>
  cz (ho pins s2 σ H2 x y v u _ I2 r1 r2 q2) fun d s3 ⟨z,H3,I3,r3,k,e,q3⟩=>?_)) hm
 subst e
 cases r3
 refine wpAny_truthy_bool ?_
 cases k with
 | false=>exact ite_ff ⟨.bl false,H3,I3,rfl,q3⟩
 | true=>exact ite_tt (chain_last (cz (hc pins s3 σ H3 _ I3 q3) fun w' s4 ⟨z',H4,I4,r4,q4⟩=>vj pins s4 σ H4 y z' u w' Q I4 r2 r4 q4))
theorem BN {w5 : CmpOp} (ho : OpR X (compareOp op) r) (vj : OpR X (compareOp w5) r') (ha : PE X a ta) (hb : PE X b tb) (hc : PE X c tc)
    (hm:lastMarks [op,w5] [b,c] = false:=by with_unfolding_all rfl):PT X (.Compare a [op,w5] [b,c] pos) (tQ (nz r r' ta tb tc)):=by
 intro pins s σ H Q I h;refine isTrue_chain (cz (ha pins s σ H _ I h) fun v s1 ⟨x,H1,I1,r1,q1⟩=>test_link (cz (hb pins s1 σ H1 _ I1 q1) fun u s2 ⟨y,H2,I2,r2,q2⟩ =>
  cz (ho pins s2 σ H2 x y v u _ I2 r1 r2 q2) fun d s3 ⟨z,H3,I3,r3,k,e,q3⟩=>?_)) hm
 subst e
 cases r3
 refine wpAny_truthy_bool ?_
 cases k with
 | false =>
  obtain ⟨k',e',q'⟩:=q3
  cases e'
  exact ite_ff ⟨H3,I3,q'⟩
 | true =>
  refine ite_tt (test_last (cz (hc pins s3 σ H3 _ I3 q3) fun w' s4 ⟨z',H4,I4,r4,q4⟩=>cz (vj pins s4 σ H4 y z' u w' _ I4 r2 r4 q4) fun d' s5 ⟨z2,H5,I5,r5,k2,e2,q5⟩=>?_))
  subst e2
  cases r5
  exact wpAny_truthy_bool ⟨H5,I5,q5⟩
theorem sL:(sizeLine:Nat) < 2 ^ 63:=by rw [sizeLine_eq];decide
theorem wZ:OpR X (binaryOp .Add) (fun x y H Q=>∃ i j,x = .str i/\y = .str j/\i.length + j.length <= sizeLine/\Q (.str (i ++ j)) H):=by
 intro pins s σ H x y v u Q I rx ry h;obtain ⟨i,j,rfl,rfl,hz,q⟩:=h;obtain ⟨t,rfl⟩:=rx;obtain ⟨t',rfl⟩:=ry;exact add_str (fun t' tk=>⟨.str (i ++ j),H,I.tok _,⟨_,rfl⟩,q⟩) hz
theorem vals1 {x:V} (r:Vals [x] us):∃ u,us = [u]/\RelV x u:=by
 cases r with
 | cons r1 r2=>cases r2;exact ⟨_,rfl,r1⟩
theorem vals2 {x y:V} (r:Vals [x,y] us):∃ u w',us = [u,w']/\RelV x u/\RelV y w':=by
 cases r with
 | cons r1 r2 =>
  cases r2 with
  | cons r3 r4=>cases r4;exact ⟨_,_,rfl,r1,r3⟩
theorem Af (hc:X.calm = true):cN X (.builtin "max") (fun xs H Q=>∃ i j,xs = [.int i,.int j]/\Q (.int (if j > i then j else i)) H):=by
 intro pins s σ H xs us Q I r h;obtain ⟨i,j,rfl,q⟩:=h;obtain ⟨u,w',rfl,⟨t,rfl⟩,⟨t',rfl⟩⟩:=vals2 r;refine max_two_ints (I.ok.hd hc) fun h' tk k=>⟨_,H,I.kept k,?_,q⟩
 by_cases hj:j > i
 ·rw [if_pos hj,if_pos hj];exact ⟨_,rfl⟩
 ·rw [if_neg hj,if_neg hj];exact ⟨_,rfl⟩
theorem sU:cN X (.type "str") (fun xs H Q=>∃ i,xs = [.int i]/\i.natAbs.log2 < 1920/\Q (.str (toString i)) H):=by
 intro pins s σ H xs us Q I r h;obtain ⟨i,rfl,hz,q⟩:=h;obtain ⟨u,rfl,t,rfl⟩:=vals1 r;exact PySem.P.str_of_int hz ⟨.str _,H,I.tok _,⟨_,rfl⟩,q⟩
theorem vI:cN X (.builtin "ord") (fun xs H Q=>∃ x,xs = [.str x]/\x.length = 1/\Q (.int (x.cps.getD 0 0:Nat)) H):=by
 intro pins s σ H xs us Q I r h;obtain ⟨x,rfl,hz,q⟩:=h;obtain ⟨u,rfl,t,rfl⟩:=vals1 r;exact ord_of_one hz ⟨.int _,H,I.tok _,⟨_,rfl⟩,q⟩
def NA (K:W.Frag) (x:V) (H:Hp) (n:Nat):Prop :=
 match x with
 | .str y=>y.length <= sizeLine/\n = y.length
 | .byt y=>y.size <= sizeLine/\n = y.size
 | .ref p=>(∃ xs,SqL K H p xs/\n = xs.length) \/ ∃ xs,SqT K H p xs/\n = xs.length
 | _=>False
theorem Dh:cN X (.builtin "len") (fun xs H Q=>∃ x n,xs = [x]/\NA X.K x H n/\Q (.int n) H):=by
 intro pins s σ H xs us Q I r h;obtain ⟨x,n,rfl,e,q⟩:=h;obtain ⟨u,rfl,rx⟩:=vals1 r;have hl:=sL;have hs:sizeLine = 16777216:=sizeLine_eq
 cases x with
 | str y =>
  obtain ⟨t,rfl⟩:=rx;obtain ⟨hy,e'⟩:y.length <= sizeLine/\n = y.length:=e;subst e';exact len_str (by omega) ⟨.int _,H,I.tok _,⟨_,rfl⟩,q⟩
 | byt y =>
  obtain ⟨t,rfl⟩:=rx;obtain ⟨hy,e'⟩:y.size <= sizeLine/\n = y.size:=e;subst e';exact W.len_bytes (by omega) ⟨.int _,H,I.tok _,⟨_,rfl⟩,q⟩
 | ref p =>
  cases rx
  have e':(∃ xs,SqL X.K H p xs/\n = xs.length) \/ ∃ xs,SqT X.K H p xs/\n = xs.length:=e
  rcases e' with ⟨xs,hx,e'⟩ | ⟨xs,hx,e'⟩
  ·subst e';obtain ⟨its,r',pl,hz⟩:=I.list hx;have hlen:=r'.length;exact Calls.call_len_list pl.isList (by simp only [List.size_toArray];omega) ⟨.int xs.length,H,I.tok _,⟨_,by simp only [List.size_toArray];rw [hlen]⟩,q⟩
  ·subst e';obtain ⟨its,r',pl,hz⟩:=I.tuple hx;have hlen:=r'.length;exact len_tuple pl (by simp only [List.size_toArray];omega) ⟨.int xs.length,H,I.tok _,⟨_,by simp only [List.size_toArray];rw [hlen]⟩,q⟩
 | _=>exact (show False from e).elim
end
structure ObjM (h:Heap) (x dx C:Addr) (mA:Str->Option Value):Prop where
 obj:h.get? x = some (W.instObj C dx)
 ns:h.Ns1 dx mA
 ne:dx ≠ x
theorem zF {mA:Str->Option Value} (n:h.Ns1 dx mA):∃ od,h.get? dx = some od/\∀ name,W.lookIn name od = some (mA name):=by
 obtain ⟨o,es,ep,ho,hd,hk,_,hm⟩:=n;refine ⟨o,ho,fun name=>?_⟩
 have e:=hm name;unfold nsFind findBy at e;rw [<- Array.find?_toList] at e;unfold W.lookIn;rw [hd];dsimp only
 split
 ·rename_i y q;rw [q] at e;exact congrArg some e
 ·rename_i q;rw [q] at e;have a:es.toList.any (·.refKey) = false:=by
   rw [List.any_eq_false];intro y hy;obtain ⟨z,t,pY⟩:=hk y (Array.mem_toList_iff.mp hy);simp [DictEntry.refKey,pY]
  have a':¬ es.toList.any (·.refKey) = true:=by rw [a];exact Bool.false_ne_true
  rw [if_neg a'];exact congrArg some e
theorem ObjM.look {x:Addr} {mA:Str->Option Value} (I:ObjM h x dx C mA):∃ od,W.InstAt h x (W.instObj C dx) C (some od)/\∀ name,W.lookIn name od = some (mA name) :=
 let ⟨od,ho,hl⟩:=zF I.ns
 ⟨od,⟨I.obj,rfl,rfl,ho⟩,hl⟩
theorem RelO.some_of {o:Option Value} (r:RelO (some v) o):∃ u,o = some u/\RelV v u:=by
 cases o with
 | none=>exact (show False from r).elim
 | some u=>exact ⟨u,rfl,r⟩
section
variable {fs UZ:List (Str × V)}
theorem Fm (hok:HOk P w H h) (e:H a = some (.ins C dx fs)):∃ mA,ObjM h a dx C mA/\(∀ f,RelO (fs.lookup f) (mA f))/\PySem.Within mA (fs.map (·.1))/\fs.length <= 1000/\H dx = some (.own a):=by
 obtain ⟨d,z,ne,ob,mA,n,r,q⟩:=(show ObjOk P w H h a (.ins C dx fs) from hok a _ e);exact ⟨mA,⟨ob,n,ne⟩,r,q,z,d⟩
end
structure Cls (K:W.Frag) (C:Addr):Prop where
 pg:W.plainGet K C Str.empty = true
 hd:W.hasDictIn K C = true
 po:W.plainOver K C = true
 sa:W.findIn K (.ref C) "__setattr__" = some (some (.builtin "object.__setattr__"))
theorem Cls.get (c:Cls K C) (f:Str):W.plainGet K C f = true:=c.pg
section
variable {E:Value->Shared->Prop} {Q:Value->Shared->Prop} {c:Value} {b:Bool}
inductive TyOf (K:W.Frag) (H:Hp):V->Value->Prop where
 | non:TyOf K H .non (.type "NoneType")
 | bl (x:Bool):TyOf K H (.bl x) (.type "bool")
 | int (i:Int):TyOf K H (.int i) (.type "int")
 | str (x:Str):TyOf K H (.str x) (.type "str")
 | flt (x:UInt64):TyOf K H (.flt x) (.type "float")
 | lst {a:Addr} {xs:List V} (e:H a = some (.lst xs)):TyOf K H (.ref a) (.type "list")
 | frz {a:Addr} {o:Obj} {xs:List V} (e:H a = some (.frz o (.lst xs))):TyOf K H (.ref a) (.type "list")
 | tup {a:Addr} {xs:List V} (e:H a = some (.tup xs)):TyOf K H (.ref a) (.type "tuple")
 | dK {a:Addr} {aF:List (Key × V)} (e:H a = some (.dK aF)):TyOf K H (.ref a) (.type "dict")
 | dT {a:Addr} {aF:List (List Key × V)} (e:H a = some (.dT aF)):TyOf K H (.ref a) (.type "dict")
 | ins {a C dx : Addr} {fs : List (Str × V)} (e : H a = some (.ins C dx fs)) (cl : Cls K C) (ha : W.findIn K (.ref C) "__class__" = some (some (.builtin "object.__class__")))
     (hn:W.specialIn K (.builtin "object.__class__") "__get__" = some (some (.builtin "getset_descriptor.__get__"))) (NX:W.takesIn K (.builtin "object.__class__") = some true)
     (hm:W.mroIn K C (.type "object") = some true):TyOf K H (.ref a) (.ref C)
theorem zO {x : V} {t : Value} (I : Inv X pins σ H s) (rx : RelV x u) (ty : TyOf X.K H x t) (e : W.kitOne X.K t c = some b) (h : ∀ tk, Q (.bool b) { s with toks := tk }) :
    wpAny (model X.prog X.w) A (call (.builtin "isinstance") [u,c]) Q E s:=by
 cases ty with
 | non=>cases (show u = Value.none from rx);exact W.kia_one W.kitx_none I.kIn True.intro e (fun z=>nomatch z) h
 | bl y=>cases (show u = Value.bool y from rx);exact W.kia_one W.kitx_bool I.kIn True.intro e (fun z=>nomatch z) h
 | int i=>obtain ⟨t,q⟩:=(show ∃ t,u = Value.int i t from rx);cases q;exact W.kia_one W.kitx_int I.kIn True.intro e (fun z=>nomatch z) h
 | str y=>obtain ⟨t,q⟩:=(show ∃ t,u = Value.str y t from rx);cases q;exact W.kia_one W.kitx_str I.kIn True.intro e (fun z=>nomatch z) h
 | flt y=>obtain ⟨t,q⟩:=(show ∃ t,u = Value.float y t from rx);cases q;exact W.kia_one W.kitx_float I.kIn True.intro e (fun z=>nomatch z) h
 | @lst a xs ea =>
  cases (show u = Value.ref a from rx)
  obtain ⟨_,_,n,_,h1⟩:=(show ObjOk X.prog X.w H s.heap a (.lst xs) from I.hok a _ ea);exact W.kia_one W.kitx_list I.kIn ⟨_,h1,rfl⟩ e (fun z=>nomatch z) h
 | @frz a ob xs ea =>
  cases (show u = Value.ref a from rx)
  obtain ⟨_,_,_,n,_,h1⟩:=(show ObjOk X.prog X.w H s.heap a (.frz ob (.lst xs)) from I.hok a _ ea);exact W.kia_one W.kitx_list I.kIn ⟨_,h1,rfl⟩ e (fun z=>nomatch z) h
 | @tup a xs ea =>
  cases (show u = Value.ref a from rx)
  obtain ⟨_,_,_,p⟩:=(show ObjOk X.prog X.w H s.heap a (.tup xs) from I.hok a _ ea);obtain ⟨o,h1,h2,_⟩:=p;exact W.kia_one W.kitx_tuple I.kIn ⟨o,h1,h2⟩ e (fun z=>nomatch z) h
 | @dK a aF ea =>
  cases (show u = Value.ref a from rx)
  obtain ⟨_,_,vs,_,p⟩:=(show ObjOk X.prog X.w H s.heap a (.dK aF) from I.hok a _ ea);obtain ⟨o,es,ep,h1,h2,_⟩:=p;exact W.kia_one W.kitx_dict I.kIn ⟨o,h1,h2.1⟩ e (fun z=>nomatch z) h
 | @dT a aF ea =>
  cases (show u = Value.ref a from rx)
  obtain ⟨_,_,xs,_,o,es,ep,h1,h2,_⟩:=(show ObjOk X.prog X.w H s.heap a (.dT aF) from I.hok a _ ea);exact W.kia_one W.kitx_dict I.kIn ⟨o,h1,h2.1⟩ e (fun z=>nomatch z) h
 | @ins a C dx fs ea cl ha hn NX hm =>
  cases (show u = Value.ref a from rx)
  obtain ⟨mA,O,_⟩:=Fm I.hok ea;obtain ⟨od,J,_⟩:=O.look;exact W.kia_one (W.kitx_own (cl.get _) cl.hd ha hn NX hm) I.kIn J e (fun z=>nomatch z) h
end
structure Room (k:Nat) (A:Around):Prop where
 hd:A.handled = none
 dp:A.depth + 3 * k + 5 < recursionLimit
 un:A.units + 16 * k + 200 < cLine
theorem Room.mono (r:Room k A) (h:j <= k):Room j A:=⟨r.hd,by have:=r.dp;omega,by have:=r.un;omega⟩
theorem Room.deeper (r:Room (k + 1) A) (env:Env):Room k (A.deeper env) :=
 ⟨r.hd,by have:=r.dp;show A.depth + 1 + 3 * k + 5 < _;omega,by have:=r.un;show A.units + 3 + 16 * k + 200 < _;omega⟩
theorem Room.in1 (r:Room (k + 1) A):Room k A.in1 :=
 ⟨r.hd,by have:=r.dp;show A.depth + 3 * k + 5 < _;omega,by have:=r.un;show A.units + 1 + 16 * k + 200 < _;omega⟩
theorem Room.depth (r:Room k A):A.depth < recursionLimit:=by have:=r.dp;omega
theorem Room.units (r:Room k A):A.units + 64 < cLine:=by have:=r.un;omega
def DO:TA:=fun _ H Q=>Q [] H
def tT (ta:TE) (tr:TA):TA:=fun σ H Q=>ta σ H fun x H1=>tr σ H1 fun xs H2=>Q (x :: xs) H2
section
theorem IK:PA X [] DO:=fun _ _ _ _ H Q I h=>Calls.spliced_nil ⟨[],H,I,.nil,h⟩
theorem EU (ha:PE X e te) (hr:PA X es t) (hs:starEach (e :: es) X.env = (false,eval e X.env) :: starEach es X.env:=by rfl):PA X (e :: es) (tT te t):=by
 intro pos pins s σ H Q I h;rw [hs];show wpAny _ _ (spliced ((false,eval e X.env) :: backTo pos (starEach es X.env))) _ _ s;refine Calls.spliced_cons (cz (ha pins s σ H _ I h) fun u s1 ⟨x,H1,I1,r1,q1⟩=>?_)
 exact cz (hr pos pins s1 σ H1 _ I1 q1) fun us s2 ⟨xs,H2,I2,r2,q2⟩=>⟨x :: xs,H2,I2,.cons r1 r2,q2⟩
end
abbrev Sp:=List V->Hp->VK->XK->Prop
variable {sp:Sp}
abbrev DJ:=List Env->Hp->Shared->XK->Value->Shared->Prop
variable {CX:DJ}
structure qb (P:Program) (w:World) (K:W.Frag) (mg:Str->Option Value) (base:Heap) (A:Around) (outer:List Env) (s:Shared) (H:Hp):Prop where
 frames:A.frames = some outer
 mod:Mod K mg base
 bs:∀ b o,base.get? b = some o->s.heap.get? b = some o/\H b = none
 bsz:base.objs.size <= s.heap.objs.size
 funs:s.heap.FunFrames base outer
 frf:∀ b ∈ tE outer,H b = none
 hok:HOk P w H s.heap
 bare:AllBare s.gens
def CE (outer:List Env) (P:Program) (w:World) (H:Hp) (s:Shared) (Q:VK) (u:Value) (s':Shared):Prop :=
 ∃ v H',s'.os = s.os/\AllBare s'.gens/\Un (tE outer) [] H H' s.heap s'.heap/\HOk P w H' s'.heap/\RelV v u/\Q v H'
def CR (CX:DJ) (outer:List Env) (P:Program) (w:World) (H:Hp) (s:Shared) (Q:VK) (E:XK) (r:Result) (s':Shared):Prop :=
 match r with
 | .ok (.ret u)=>CE outer P w H s Q u s'
 | .ok _=>False
 | .error e=>CX outer H s E e s'
structure FnOk (P:Program) (w:World) (K:W.Frag) (mg:Str->Option Value) (base:Heap) (CX:DJ) (k:Nat) (f:Addr) (fd:FuncData) (ps:List Str) (sp:Sp):Prop where
 len:∀ vs H Q E,sp vs H Q E->vs.length = ps.length
 run:∀ (A:Around) (outer:List Env) (s:Shared) (H:Hp) (args:Args) (us:List Value) (vs:List V) (Q:VK) (E:XK),Room k A->qb P w K mg base A outer s H->BindsTo s fd args (ps.zip us)->Vals vs us->sp vs H Q E ->
  codeAny (model P w) A (.call (.ref f) args) (CR CX outer P w H s Q E) s
theorem FnOk.mono (F : FnOk P w K mg base CX j f fd ps sp) (h : j <= k) :
    FnOk P w K mg base CX k f fd ps sp:=⟨F.len,fun A outer s H args us vs Q E hr=>F.run A outer s H args us vs Q E (hr.mono h)⟩
section
theorem Inv.env0 (I:Inv X pins σ H s):qb X.prog X.w X.K X.mg X.base X.A X.stack s H :=
 ⟨I.ok.frames,I.ok.mod,I.bs,Nat.le_trans I.ok.bsz I.sz,I.stack,I.stkFree,I.hok,I.bare⟩
theorem Inv.after (I:Inv X pins σ H s) (h:CE X.stack X.prog X.w H s Q u s'):EP X pins σ Q u s':=by
 obtain ⟨v,H',os,bare,un,hok,r,q⟩:=h;obtain ⟨hh,g,d,t,os'⟩:=s';obtain rfl:os' = s.os:=os;exact ⟨v,H',I.call (h':=hh) (g':=g) (d':=d) (t':=t) (ch:=[]) un hok bare (fun b z=>absurd z (by simp)),r,q⟩
end
def nA (sp:Sp) (GZ:List V) (E:XK) (t:TA):TE:=fun σ H Q=>t σ H fun vs H1=>sp (vs ++ GZ) H1 Q E
def Binds (K:W.Frag) (fd:FuncData) (ps:List Str) (ds:List Value):Prop :=
 ∀ (s:Shared) (us:List Value),K.In s.heap->(us ++ ds).length = ps.length->BindsTo s fd ⟨us,[]⟩ (ps.zip (us ++ ds))
theorem Binds.all (h:∀ us:List Value,us.length = ps.length->bindArgs fd ⟨us,[]⟩ = pure (ps.zip us)):Binds K fd ps []:=fun s us _ hl=>by
 rw [List.append_nil] at hl ⊢;exact .of_eq (h us hl)
def Passes (CX:DJ) (X:Cx) (E:XK):Prop:=∀ (pins:List (Addr × Obj)) (σ:St) (H:Hp) (s:Shared) (e:Value) (s':Shared),Inv X pins σ H s->CX X.stack H s E e s'->X.xe e s'
section
variable {GZ:List V} {ds:List Value} {m:Str} {apos:Pos} {o:Expr}
theorem HJ {vs : List V} (F : FnOk X.prog X.w X.K X.mg X.base CX k f fd ps sp) (hr : Room k X.A) (hb : Binds X.K fd ps ds) (hd : Vals GZ ds) (hx : Passes CX X E)
    (I:Inv X pins σ H s) (r:Vals vs us) (h:sp (vs ++ GZ) H Q E):wpAny (model X.prog X.w) X.A (call (.ref f) us) (EP X pins σ Q) X.xe s:=by
 have r2:Vals (vs ++ GZ) (us ++ ds):=r.append hd;have hl:(us ++ ds).length = ps.length:=by rw [<- r2.length];exact F.len _ _ _ _ h
 refine wpAny_call (codeAny_mono (F.run X.A X.stack s H ⟨us,[]⟩ (us ++ ds) (vs ++ GZ) Q E hr I.env0 (hb s us I.kIn hl) r2 h) fun r s' hq=>?_)
 cases r with
 | error e=>exact hx pins σ H s e s' I hq
 | ok fl =>
  cases fl with
  | ret u=>exact I.after hq
  | next=>exact False.elim hq
  | brk=>exact False.elim hq
  | cont=>exact False.elim hq
theorem EO (F : FnOk X.prog X.w X.K X.mg X.base CX k f fd ps sp) (hr : Room k X.A) (hg : Gl X x) (hm : X.mg x = some (.ref f)) (hk : W.keepIn X.K (.ref f) = true) (hb : Binds X.K fd ps ds) (hd : Vals GZ ds) (hx : Passes CX X E)
    (ha:PA X (e :: es) t) (sR:(x == ("__debug__":Str)) = false:=by decide) (he:starEach (e :: es) X.env = (false,eval e X.env) :: starEach es X.env:=by rfl) (qL:(backTo pos (starEach es X.env)).any (·.1) = false:=by rfl) :
    PE X (.Call (.Name x p) (e :: es) [] pos) (nA sp GZ E t):=by
 intro pins s σ H Q I h;refine wpAny_Call_Name_kw (yk I hg hm ?_ sR);refine W.callWith_K (h₀:=X.base) I.ok.mod.kin hk (cz (ha pos pins s σ H _ I h) fun us s1 ⟨vs,H1,I1,r,q⟩=>⟨I1.kIn,?_⟩) he qL
 exact HJ F hr hb hd hx I1 r q
end
def PK (X:Cx) (LD:List Keyword) (t:TA):Prop :=
 ∀ (pos:Pos) (pins:List (Addr × Obj)) (s:Shared) (σ:St) (H:Hp) (Q:List V->Hp->Prop),Inv X pins σ H s->t σ H Q->wpAny (model X.prog X.w) X.A (evalAll ((backToKw pos (keywordEach LD X.env)).map (·.2))) (AP X pins σ Q) X.xe s
section
variable {ks:List Str} {m:Str} {apos kpos:Pos} {o:Expr} {LD:List Keyword} {tk:TA} {nm:Option Str}
theorem IA:PK X [] DO:=fun _ _ _ _ H Q I h=>wpAny_evalAll_nil ⟨[],H,I,.nil,h⟩
theorem ED (ha:PE X e te) (hr:PK X LD t):PK X (⟨nm,e,kpos⟩ :: LD) (tT te t):=by
 intro pos pins s σ H Q I h;show wpAny _ _ (evalAll ((do let v <- eval e X.env;standAt pos;pure v) :: (backToKw pos (keywordEach LD X.env)).map (·.2))) _ _ s;refine wpAny_evalAll_cons (wpAny_bind (cz (ha pins s σ H _ I h) fun u s1 ⟨x,H1,I1,r1,q1⟩=>wpAny_bind (wpAny_standAt (wpAny_pure ?_))))
 exact cz (hr pos pins s1 σ H1 _ I1 q1) fun us s2 ⟨xs,H2,I2,r2,q2⟩=>⟨x :: xs,H2,I2,.cons r1 r2,q2⟩
variable {g:List Value->List Value->List Value} {gV:List V->List V->List V}
end
structure aq (N P:List Str) (sc:Scope):Prop where
 kind:sc.kind = .function
 co:sc.isCoroutine = false
 gen:sc.isGenerator = false
 nd:N.Nodup
 pre:N.take P.length = P
 par:∀ x ∈ P,sc.names.lookup x = some .local \/ sc.names.lookup x = some .cell
 nofree:∀ y ∈ sc.names,y.2 ≠ .free
theorem rg {kindOf:Str->Option NameKind} {x:Str}:∀ {binds:List (Str × Value)} {m:Str->Option Value},(∀ v,(x,v) ∉ binds)->bindL kindOf binds m x = m x
 | [],_,_=>rfl
 | (n,v) :: r,m,h=>by
  unfold bindL;rw [rg fun w hw=>h w (List.mem_cons_of_mem _ hw)]
  split
  ·have:x ≠ n:=by rintro rfl;exact h v List.mem_cons_self
   simp [this]
  ·rfl
theorem rj {kindOf:Str->Option NameKind} {x:Str}:∀ {binds:List (Str × Value)} {m:Str->Option Value},(∀ v,(x,v) ∉ binds)->bindC kindOf binds m x = m x
 | [],_,_=>rfl
 | (n,v) :: r,m,h=>by
  unfold bindC;rw [rj fun w hw=>h w (List.mem_cons_of_mem _ hw)]
  split
  ·rfl
  ·have:x ≠ n:=by rintro rfl;exact h v List.mem_cons_self
   simp [this]
theorem rh {v : Value} : ∀ {P : List Str} {vs : List Value} {i : Nat} {m : Str -> Option Value}, P.Nodup -> P[i]? = some x -> vs[i]? = some v -> kindOf x = some .local ->
    bindL kindOf (P.zip vs) m x = some v
 | [],_,_,_,_,h,_,_=>by simp at h
 | _ :: _,[],_,_,_,_,h,_=>by simp at h
 | p :: P,w :: vs,0,m,nd,h1,h2,hk=>by
  simp at h1 h2;subst h1;subst h2;show bindL kindOf ((p,w) :: P.zip vs) m p = _;unfold bindL;rw [rg fun v hv=>(List.nodup_cons.mp nd).1 (List.of_mem_zip hv).1,if_pos hk];simp
 | p :: P,w :: vs,i + 1,m,nd,h1,h2,hk=>by
  show bindL kindOf ((p,w) :: P.zip vs) m x = _;unfold bindL;exact rh (i:=i) (List.nodup_cons.mp nd).2 (by simpa using h1) (by simpa using h2) hk
theorem rl {v : Value} : ∀ {P : List Str} {vs : List Value} {i : Nat} {m : Str -> Option Value}, P.Nodup -> P[i]? = some x -> vs[i]? = some v -> kindOf x ≠ some .local ->
    bindC kindOf (P.zip vs) m x = some v
 | [],_,_,_,_,h,_,_=>by simp at h
 | _ :: _,[],_,_,_,_,h,_=>by simp at h
 | p :: P,w :: vs,0,m,nd,h1,h2,hk=>by
  simp at h1 h2;subst h1;subst h2;show bindC kindOf ((p,w) :: P.zip vs) m p = _;unfold bindC;rw [rj fun v hv=>(List.nodup_cons.mp nd).1 (List.of_mem_zip hv).1,if_neg hk];simp
 | p :: P,w :: vs,i + 1,m,nd,h1,h2,hk=>by
  show bindC kindOf ((p,w) :: P.zip vs) m x = _;unfold bindC;exact rl (i:=i) (List.nodup_cons.mp nd).2 (by simpa using h1) (by simpa using h2) hk
def start (N:List Str) (vs:List V):St:=vs.map some ++ List.replicate (N.length - vs.length) none
def hX (CX:DJ) (P:Program) (w:World) (K:W.Frag) (mg:Str->Option Value) (base:Heap) (N:List Str) (qual:Str) (scope:Scope) (f:Addr) (cd:Value) (A:Around) (outer:List Env) (s:Shared) (H:Hp) (E:XK):Cx where
 prog:=P
 w:=w
 K:=K
 mg:=mg
 base:=base
 A:=A.deeper (envOfC qual scope s.heap.objs.size f cd)
 N:=N
 s₀:=s
 H₀:=H
 env:=envOfC qual scope s.heap.objs.size f cd
 outer:=outer
 stack:=envOfC qual scope s.heap.objs.size f cd :: outer
 ex:=[]
 calm:=true
 fn:=fun _=>true
 pn:=[]
 xe:=fun e s'=>wpAny (model P w) (A.deeper (envOfC qual scope s.heap.objs.size f cd)) (leaving (envOfC qual scope s.heap.objs.size f cd) e) (fun _ Pw=>CX outer H s E e Pw) (fun e' Pw=>CX outer H s E e' Pw) s'
theorem oU {sc:Scope} {n:Nat} (h:sc.names.lookup x = some .cell):∃ c,(cellsFrom n sc.names []).lookup x = some c:=by
 have q:=W.cellsFrom_some sc.names n [] (.inl h);exact Option.isSome_iff_exists.mp q
theorem lK {N : List Str} {qual : Str} {scope : Scope} {cd : Value} {outer : List Env} {s1 : Shared} {vs : List V}
    (S:aq N ps scope) (hd:A.handled = none) (e0:qb P w K mg base A outer s H) (hl:vs.length = ps.length) (r:Vals vs us)
    (x:InCallC s s.heap.objs.size (bindL (envOfC qual scope s.heap.objs.size f cd).kindOf (ps.zip us) fun _=>none) (cellsFrom (s.heap.objs.size + 1) scope.names []) (bindC (envOfC qual scope s.heap.objs.size f cd).kindOf (ps.zip us) fun _=>none) s1) :
    Inv (hX CX P w K mg base N qual scope f cd A outer s H E) [] (start N vs) H s1:=by
 have qL:ps.length <= N.length:=by have:=congrArg List.length S.pre;rw [List.length_take] at this;omega
 obtain ⟨h1,tk,rfl,hk⟩:=x.done;have SG:∀ b:Addr,b ∉ (hX CX P w K mg base N qual scope f cd A outer s H E).ex:=fun b z=>absurd (show b ∈ ([]:List Addr) from z) (by simp)
 refine ⟨⟨e0.mod,S.kind,rfl,rfl,Nat.le_refl _,fun y z c h1 h2=>?_,fun y hy=>?_,fun y c _ h=>?_,fun _=>hd,Around.frames_deeper e0.frames,.inr ⟨rfl,rfl⟩,fun b z=>absurd z (SG b),e0.bs,e0.bsz,fun b _ _=>SG b,fun b z=>absurd z (SG b),e0.funs,e0.frf⟩,
  rfl,e0.bare,Un.kept hk,⟨_,x.toInCall.ns,fun i y v h1 h2 h3=>?_⟩,fun y c h=>⟨_,x.cell y c h⟩,e0.hok.fresh (Nat.le_refl _),fun y c h=>?_,fun p hp=>absurd (show p ∈ ([]:List (Addr × Obj)) from hp) (by simp),e0.hok.kept hk,?_⟩
 ·exact name_of_addr x.apart (PySem.mem_of_lookup h1) (PySem.mem_of_lookup h2)
 ·have hy:scope.names.lookup y = some .cell \/ scope.names.lookup y = some .free:=hy
  rcases hy with hy | hy
  ·exact oU hy
  ·exact absurd rfl (S.nofree _ (PySem.mem_of_lookup hy))
 ·exact Nat.le_of_lt (x.above y c (PySem.mem_of_lookup h))
 ·have hi:i < vs.length:=by
   unfold start at h2
   by_cases hi:i < vs.length
   ·exact hi
   ·rw [List.getElem?_append_right (by simpa using hi)] at h2;rw [List.getElem?_replicate] at h2
    split at h2 <;> cases h2
  have ha:vs[i]? = some v:=by
   unfold start at h2;rw [List.getElem?_append_left (by simpa using hi),List.getElem?_map] at h2
   cases e:vs[i]? with
   | none=>rw [e] at h2;cases h2
   | some a=>rw [e] at h2;cases h2;rfl
  obtain ⟨u,hu,rv⟩:=r.get ha;have hp:ps[i]? = some y:=by
   rw [<- S.pre,List.getElem?_take_of_lt (by omega)];exact h1
  have NS:ps.Nodup:=by rw [<- S.pre];exact S.nd.sublist (List.take_sublist _ _)
  refine ⟨u,rv,?_⟩
  rcases S.par y (List.mem_of_getElem? hp) with k | k
  ·exact .inl ⟨k,rh NS hp hu k⟩
  ·obtain ⟨c,e⟩:=oU (n:=s.heap.objs.size + 1) k;refine .inr ⟨.inl k,c,e,?_⟩;have q:=x.cell y c e;rw [rl NS hp hu (by show scope.names.lookup y ≠ _;rw [k];decide)] at q;exact q
 ·exact e0.hok.fresh (Nat.le_of_lt (x.above y c (PySem.mem_of_lookup h)))
 ·unfold start;show _ = N.length;rw [List.length_append,List.length_map,List.length_replicate];omega
theorem GW {name qual : Str} {params : Arguments} {body : List Stmt} {scope : Scope} {dV kV doc pm bq ct oc : Value} {an od : Option Addr}
    {DF:Array (Option Value)} {N ps:List Str} {sp:Sp} (lk:K.lookup f = some ⟨oc,od,.func (W.fnOf name qual params body scope dV kV doc pm an bq ct),DF⟩) (j5:W.codeIn K bq qual = true) (S:aq N ps scope)
    (len:∀ vs H Q E,sp vs H Q E->vs.length = ps.length)
    (fZ:∀ (A:Around) (outer:List Env) (s:Shared) (H:Hp) (vs:List V) (Q:VK) (E:XK),Room k (A.deeper (envOfC qual scope s.heap.objs.size f bq))->sp vs H Q E ->
     ∃ t,PSs (hX CX P w K mg base N qual scope f bq A outer s H E) body t/\t { nx:=fun _ H'=>Q .non H',rt:=Q } (start N vs) H) :
    FnOk P w K mg base CX (k + 1) f (W.fnOf name qual params body scope dV kV doc pm an bq ct) ps sp:=by
 refine ⟨len,fun A outer s H args us vs Q E hr e0 hb r xA=>?_⟩;have hl:=len _ _ _ _ xA;have KX:K.In s.heap:=e0.mod.kin.keeps fun b o e=>(e0.bs b o e).1
 have lim:s.heap.NoLimit:=e0.mod.nolimit.keeps fun b o e=>(e0.bs b o e).1
 have vm:∀ y ∈ ps.zip us,scope.names.lookup y.1 = some .local \/ (scope.names.lookup y.1 = some .cell/\((cellsFrom (s.heap.objs.size + 1) scope.names []).lookup y.1).isSome = true):=fun ⟨n,v⟩ hy=>by
  rcases S.par n (List.of_mem_zip hy).1 with q | q
  ·exact .inl q
  ·exact .inr ⟨q,W.cellsFrom_some _ _ _ (.inl q)⟩
 refine codeAny_call_function hr.depth (KX _ _ lk) rfl S.co S.gen rfl (W.codeRec_of KX j5) (hb _ _ _ _ ?_);refine wpAny_newFunctionEnv_cells S.kind vm fun env he s1 x=>?_
 subst he;refine ⟨lim.keeps x.toInCall.keep,codeAny_func ?_⟩;obtain ⟨t,ht,hq⟩:=fZ A outer s H vs Q E (hr.deeper _) xA;have I:Inv (hX CX P w K mg base N qual scope f bq A outer s H E) [] (start N vs) H s1:=lK S hr.hd e0 hl r x;refine wpAny_mono (ht [] s1 (start N vs) H _ I hq) (fun fl s' hs=>?_) fun e s' hs=>hs
 have fin:∀ {σ':St} {H':Hp} {v:V} {u:Value},Inv (hX CX P w K mg base N qual scope f bq A outer s H E) [] σ' H' s'->RelV v u->Q v H'->CE outer P w H s Q u s' :=
  fun {σ' H' v u} J rv q=>⟨v,H',J.os,J.bare,J.base,J.hok,rv,q⟩
 cases fl with
 | ret u =>
  obtain ⟨v,σ',H',J,rv,q⟩:=hs;exact fin J rv q
 | next =>
  obtain ⟨σ',H',J,q⟩:=hs;exact fin (v:=V.non) (u:=Value.none) J rfl q
 | brk =>
  obtain ⟨_,_,_,q⟩:=hs;exact False.elim q
 | cont =>
  obtain ⟨_,_,_,q⟩:=hs;exact False.elim q
section
variable {id T:String} {r:List V->Hp->VK->Prop}
def Hg (r:List V->Hp->VK->Prop) (t:TA):TE:=fun σ H Q=>t σ H fun vs H1=>r vs H1 Q
theorem B' (hc : cN X (.builtin id) r) (hg : Gl X x) (hm : X.mg x = none) (hv : bootBuiltins x = some (.builtin id)) (ha : PA X (e :: es) t) (hn : x ≠ "__name__" := by decide) (sR : (x == ("__debug__" : Str)) = false := by decide)
    (he:starEach (e :: es) X.env = (false,eval e X.env) :: starEach es X.env:=by rfl) (qL:(backTo pos (starEach es X.env)).any (·.1) = false:=by rfl):PE X (.Call (.Name x p) (e :: es) [] pos) (Hg r t):=by
 intro pins s σ H Q I h;refine wpAny_Call_Name_kw (lI I hg hm hv ?_ hn sR);exact PyProof.Rows.callWith_builtin1 (cz (ha pos pins s σ H _ I h) fun us s1 ⟨vs,H1,I1,r1,q1⟩=>hc pins s1 σ H1 vs us Q I1 r1 q1) he qL
theorem zm (hc : cN X (.type T) r) (hg : Gl X x) (hm : X.mg x = none) (hv : bootBuiltins x = some (.type T)) (ha : PA X (e :: es) t) (hn : x ≠ "__name__" := by decide) (sR : (x == ("__debug__" : Str)) = false := by decide)
    (he:starEach (e :: es) X.env = (false,eval e X.env) :: starEach es X.env:=by rfl) (qL:(backTo pos (starEach es X.env)).any (·.1) = false:=by rfl):PE X (.Call (.Name x p) (e :: es) [] pos) (Hg r t):=by
 intro pins s σ H Q I h;refine wpAny_Call_Name_kw (lI I hg hm hv ?_ hn sR);exact PyProof.Rows.callWith_type1 (cz (ha pos pins s σ H _ I h) fun us s1 ⟨vs,H1,I1,r1,q1⟩=>hc pins s1 σ H1 vs us Q I1 r1 q1) he qL
end
end L2
namespace HT
open PySem PyProof.Rows
theorem eqAt_int (A:Around) (s:Shared) (a:Int) (t:Tok) (c:Int) (u:Tok):∃ e,SeqAt.EqAt A s (.int a t) (.int c u) e/\(e = true ↔ a = c) :=
 ⟨(a == c),SeqAt.EqAt.int_int a t c u,by simp⟩
theorem rcLt_int (A : Around) (s : Shared) (a : Int) (t : Tok) (c : Int) (u : Tok) (prog : Program) (w : World) (E : Value -> Shared -> Prop) (Q : Value -> Shared -> Prop) (h : Q (.bool (decide (a < c))) s) :
    wpAny (model prog w) A (richCompare .Lt (.int a t) (.int c u)) Q E s :=
 (PyProof.Rows.lt_int h:wpAny (model prog w) A (compareOp .Lt (.int a t) (.int c u)) Q E s)
section
variable {prog:Program} {w:World} {A:Around} {E:Value->Shared->Prop} {s:Shared}
theorem cat_tup {t b : Addr} {vs ws : List Value} {Q : Value -> Shared -> Prop} (ht : IsTup s.heap t vs.toArray) (hb : IsTup s.heap b ws.toArray) (hv : vs ≠ [])
    (h1:ws = []->Q (.ref t) s) (h2:ws ≠ []->Q (.ref s.heap.objs.size) { s with heap:=s.heap.push { cls:=.type "tuple",data:=.seq (vs ++ ws).toArray } })
    (hsz:vs.length + ws.length <= sizeLine):wpAny (model prog w) A (binaryOp .Add (.ref t) (.ref b)) Q E s:=by
 obtain ⟨⟨cls,dd,data,sl⟩,ho,hc,n,hd⟩:=id ht;obtain ⟨⟨XI,Ku,data2,Gp⟩,Jz,yy,n2,hd2⟩:=id hb;simp only at hc hd yy hd2;subst hc hd yy hd2;have e:vs.toArray ++ ws.toArray = (vs ++ ws).toArray:=by simp
 by_cases hw:ws = []
 ·exact concat_meets ⟨_,ho,rfl⟩ ⟨_,Jz,rfl⟩ noFill_tuple_add seq_tuple_add PySem.F.slot_tuple_add PySem.F.entry_tuple_add (PySem.F.args_tuple_add_2 _ _)
   (tuple_addW1 t b vs.toArray ws.toArray n n2 dd Ku sl Gp (by simpa using hv) (by simp [hw])) ⟨ho,Jz,h1 hw⟩
 ·refine concat_meets ⟨_,ho,rfl⟩ ⟨_,Jz,rfl⟩ noFill_tuple_add seq_tuple_add PySem.F.slot_tuple_add PySem.F.entry_tuple_add (PySem.F.args_tuple_add_2 _ _)
   (tuple_addW2 t b vs.toArray ws.toArray n n2 dd Ku sl Gp (by simpa using hv) (by simpa using hw) (by rw [List.size_toArray,List.size_toArray];exact hsz)) ⟨ho,Jz,?_⟩
  rw [e];exact h2 hw
def sIx (n d:Nat):Option Int->Nat
 | none=>d
 | some v=>if v < 0 then (v + (n:Int)).toNat else min v.toNat n
theorem sIx_none (n d:Nat):sIx n d none = d:=rfl
theorem rM (n d k:Nat):sIx n d (some (k:Int)) = min k n:=by
 show (if (k:Int) < 0 then ((k:Int) + (n:Int)).toNat else min (k:Int).toNat n) = min k n
 rw [if_neg (by omega),Int.toNat_natCast]
theorem HD (n d:Nat) (hd:d <= n) (o:Option Int):sIx n d o <= n:=by
 cases o with
 | none=>exact hd
 | some v =>
  show (if v < 0 then (v + (n:Int)).toNat else min v.toNat n) <= n
  by_cases hv:v < 0
  ·rw [if_pos hv];omega
  ·rw [if_neg hv];exact Nat.min_le_right _ _
theorem yI (v:Int) (n d:Nat):(if v < 0 then max (v + (n:Int)) 0 else min v (n:Int)) = ((sIx n d (some v):Nat):Int):=by
 show (if v < 0 then max (v + (n:Int)) 0 else min v (n:Int)) = (((if v < 0 then (v + (n:Int)).toNat else min v.toNat n):Nat):Int)
 by_cases hv:v < 0
 ·simp only [if_pos hv];omega
 ·simp only [if_neg hv];omega
theorem xH (lo hi:Option Int) (n:Nat):Builtin.Slice.sliceAdjust lo hi 1 (n:Int) = (((sIx n 0 lo:Nat):Int),((sIx n n hi:Nat):Int)):=by
 have h1:¬ ((1:Int) < 0):=by omega
 unfold Builtin.Slice.sliceAdjust;simp only [h1,if_false];refine Prod.ext ?_ ?_
 ·cases lo with
  | none=>rfl
  | some v=>exact yI v n 0
 ·cases hi with
  | none=>rfl
  | some v=>exact yI v n n
theorem wX (i j:Nat):Builtin.Slice.slicePlaces (i:Int) (j:Int) 1 = j - i:=by
 unfold Builtin.Slice.slicePlaces;have h1:(1:Int) > 0:=by omega
 simp only [h1,if_true,Int.ediv_one]
 split <;> omega
theorem nI {v:Value} {o:Option Int} {Q:Option Int->Shared->Prop} (p:IsPart v o) (h:Q o s):wpAny (model prog w) A (Builtin.Slice.slicePartIndex v) Q E s:=by
 cases p with
 | none=>exact slicePart_none h
 | int i t=>exact slicePart_int h
theorem kY {sl : Addr} {vl vu : Value} {lo hi : Option Int} {n : Nat} {Q : Int × Int × Nat -> Shared -> Prop} (hs : s.heap.IsSliceOf sl vl vu .none) (pl : IsPart vl lo) (pu : IsPart vu hi)
    (h:Q (((sIx n 0 lo:Nat):Int),1,sIx n n hi - sIx n 0 lo) s):wpAny (model prog w) A (Builtin.Slice.sliceApplied (.ref sl) (pure (n:Int))) Q E s:=by
 obtain ⟨os,LU,Zq,N4⟩:=id hs;unfold Builtin.Slice.sliceApplied Builtin.Slice.sliceFields;refine wpAny_bind (wpAny_bind (wpAny_field LU N4 (x:=vl) rfl (wpAny_bind (wpAny_field LU N4 (x:=vu) rfl (wpAny_bind (wpAny_field LU N4 (x:=.none) rfl (wpAny_pure ?_)))))));refine wpAny_bind (slicePart_none ?_);show wpAny _ _ (if ((1:Int) == 0) = true then _ else _) _ _ s
 rw [if_neg (by decide)];refine wpAny_bind (nI pl (wpAny_bind (nI pu (wpAny_bind (wpAny_pure ?_)))));show wpAny _ _ (match Builtin.Slice.sliceAdjust lo hi 1 (n:Int) with | (lo,hi)=>pure (lo,(1:Int),Builtin.Slice.slicePlaces lo hi 1)) _ _ s
 rw [xH lo hi n];show wpAny _ _ (pure (((sIx n 0 lo:Nat):Int),(1:Int),Builtin.Slice.slicePlaces ((sIx n 0 lo:Nat):Int) ((sIx n n hi:Nat):Int) 1)) _ _ s;rw [wX];exact wpAny_pure h
theorem BY (xs:Array Value) (i k:Nat):((List.range k).filterMap fun (m:Nat)=>xs[((i:Int) + (m:Int) * 1).toNat]?).toArray = ((xs.toList.drop i).take k).toArray:=by
 have e:(fun (m:Nat)=>xs[((i:Int) + (m:Int) * 1).toNat]?) = fun m=>xs[i + m]?:=by
  funext m
  have:((i:Int) + (m:Int) * 1).toNat = i + m:=by omega
  rw [this]
 rw [e];have:=pick_run xs i k;rw [List.filterMap_map] at this;have e2:((fun x=>xs[x]?) ∘ fun x=>i + x) = fun m=>xs[i + m]?:=rfl
 rw [e2] at this;rw [this]
theorem getItem_tuple_cut {t sl : Addr} {items : Array Value} {vl vu : Value} {lo hi : Option Int} {Q : Value -> Shared -> Prop} (ht : IsTup s.heap t items) (hs : s.heap.IsSliceOf sl vl vu .none) (pl : IsPart vl lo) (pu : IsPart vu hi)
    (hw:¬ (sIx items.size 0 lo = 0/\sIx items.size items.size hi = items.size))
    (h:Q (.ref s.heap.objs.size) { s with heap:=s.heap.push { cls:=.type "tuple",data:=.seq ((items.toList.drop (sIx items.size 0 lo)).take (sIx items.size items.size hi - sIx items.size 0 lo)).toArray } })
    (hsz:items.size <= sizeLine):wpAny (model prog w) A (getItem (.ref t) (.ref sl)) Q E s:=by
 have yu:sizeOk (.seq ((items.toList.drop (sIx items.size 0 lo)).take (sIx items.size items.size hi - sIx items.size 0 lo)).toArray):=by
  show ((items.toList.drop (sIx items.size 0 lo)).take (sIx items.size items.size hi - sIx items.size 0 lo)).toArray.size <= sizeLine;rw [List.size_toArray,List.length_take,List.length_drop,Array.length_toList];omega
 have hj:sIx items.size items.size hi <= items.size:=HD _ _ (Nat.le_refl _) hi;obtain ⟨os,LU,Zq,N4⟩:=id hs;have hTs:s.TypeIs (.ref sl) "slice":=⟨os,LU,Zq⟩;unfold getItem
 try with_reducible refine wpAny_holding ?_
 first | refine wpAny_bind (wpAny_pure ?_) | skip
 refine wpAny_bind (wpAny_sequenceKey ht.typeIs (by decide) ?_);refine wpAny_bind (wpAny_callSpecial?_slot (name:=Str.ofString "__getitem__") ht.typeIs PyProof.Rows.slot_tuple_getitem
  (wpAny_call_entry PyProof.Rows.slot_tuple_getitem ht.typeIs entry_tuple_getitem ?_ (args_tuple_getitem _ _)))
 show wpAny _ _ (Builtin.Tuple.tupleItemsOf (.ref t) >>= _) _ _ s;refine wpAny_bind (tupleItemsOf_ ht ?_);refine wpAny_bind (wpAny_typeOf hTs ?_);rw [if_pos (by decide)];refine wpAny_bind (kY hs pl pu ?_);have Ur:¬ ((((sIx items.size 0 lo:Nat):Int) == 0 && (1:Int) == 1 && (sIx items.size items.size hi - sIx items.size 0 lo) == items.size) = true):=by
  intro q;rw [Bool.and_eq_true,Bool.and_eq_true] at q;have q1:((sIx items.size 0 lo:Nat):Int) = 0:=eq_of_beq q.1.1;have q2:sIx items.size items.size hi - sIx items.size 0 lo = items.size:=eq_of_beq q.2;exact hw ⟨by omega,by omega⟩
 show wpAny _ _ (if (((sIx items.size 0 lo:Nat):Int) == 0 && (1:Int) == 1 && (sIx items.size items.size hi - sIx items.size 0 lo) == items.size) = true then _ else _) _ _ s
 rw [if_neg Ur,BY]
 first
  | exact wpAny_bind (m:=Builtin.Tuple.tupleExact _) (wpAny_newObj_type (wpAny_pure ⟨_,rfl,wpAny_pure h⟩) yu)
  | exact wpAny_bind (m:=Builtin.Tuple.tupleExact _) (wpAny_newObj_type (wpAny_bind (wpAny_pure (wpAny_pure ⟨_,rfl,wpAny_pure h⟩))) yu)
  | exact wpAny_bind (wpAny_bind (m:=Builtin.Tuple.tupleExact _) (wpAny_newObj_type (wpAny_pure (wpAny_pure ⟨_,rfl,wpAny_pure h⟩)) yu))
  | exact wpAny_bind (wpAny_bind (m:=Builtin.Tuple.tupleExact _) (wpAny_newObj_type (wpAny_pure ⟨_,rfl,wpAny_pure h⟩) yu))
end
end HT
namespace L2
open PySem PySem.Spec PyProof.Rows
variable {X:Cx} {xs:List V} {α:Type} {n:Nat} {pins:List (Addr × Obj)} {σ:St} {H:Hp} {s:Shared} {x:V} {v:Value}
abbrev TO:=St->Hp->(Option Int->Hp->Prop)->Prop
def PO (X:Cx) (e:Option Expr) (t:TO):Prop :=
 ∀ (pins:List (Addr × Obj)) (s:Shared) (σ:St) (H:Hp) (Q:Option Int->Hp->Prop),Inv X pins σ H s->t σ H Q ->
  wpAny (model X.prog X.w) X.A (evalPart e X.env) (fun u s'=>∃ o H',Inv X pins σ H' s'/\IsPart u o/\Q o H') X.xe s
def kh:TO:=fun _ H Q=>Q none H
def tR (t:TE):TO:=fun σ H Q=>t σ H fun x H1=>∃ i,x = .int i/\Q (some i) H1
section
variable {e:Expr} {te:TE} {lo hi:Option Expr} {tl th:TO} {pos p2:Pos}
theorem EB:PO X none kh:=by
 intro pins s σ H Q I h;rw [evalPart_none];exact wpAny_pure ⟨none,H,I,.none,h⟩
theorem EA (h:PE X e te):PO X (some e) (tR te):=by
 intro pins s σ H Q I hw;rw [evalPart_some];refine cz (h pins s σ H _ I hw) fun u s1 ⟨x,H1,I1,r1,q1⟩=>?_
 obtain ⟨i,rfl,q⟩:=q1;obtain ⟨t,rfl⟩:=r1;exact ⟨some i,H1,I1,.int i t,q⟩
def SlR (X:Cx) (r:V->Option Int->Option Int->Hp->VK->Prop):Prop :=
 ∀ (pins:List (Addr × Obj)) (s:Shared) (σ:St) (H:Hp) (x:V) (v vl vu:Value) (lo hi:Option Int) (sl:Addr) (Q:VK),Inv X pins σ H s->RelV x v->s.heap.IsSliceOf sl vl vu .none->IsPart vl lo->IsPart vu hi->r x lo hi H Q ->
  ∃ T id,typeLookup (.type T) "__getitem__" = pure (some (.builtin id))/\s.TypeIs v T/\wpAny (model X.prog X.w) X.A (getItem v (.ref sl)) (EP X pins σ Q) X.xe s
theorem SlR.or {r r':V->Option Int->Option Int->Hp->VK->Prop} (h:SlR X r) (h':SlR X r'):SlR X (fun x lo hi H Q=>r x lo hi H Q \/ r' x lo hi H Q):=by
 intro pins s σ H x v vl vu lo hi sl Q I rx hs pl pu q
 rcases q with q | q
 ·exact h pins s σ H x v vl vu lo hi sl Q I rx hs pl pu q
 ·exact h' pins s σ H x v vl vu lo hi sl Q I rx hs pl pu q
def KG (r:V->Option Int->Option Int->Hp->VK->Prop) (te:TE) (tl th:TO):TE:=fun σ H Q=>te σ H fun x H1=>tl σ H1 fun l H2=>th σ H2 fun u H3=>r x l u H3 Q
theorem B0 {r:V->Option Int->Option Int->Hp->VK->Prop} (hr:SlR X r) (he:PE X e te) (hl:PO X lo tl) (hu:PO X hi th):PE X (.Subscript e (.Slice lo hi none p2) pos) (KG r te tl th):=by
 intro pins s σ H Q I h;refine Subscript_ (cz (he pins s σ H _ I h) fun v s1 ⟨x,H1,I1,r1,q1⟩=>?_)
 refine wpAny_Slice (cz (hl pins s1 σ H1 _ I1 q1) fun vl s2 ⟨l,H2,I2,pl,q2⟩=>cz (hu pins s2 σ H2 _ I2 q2) fun vu s3 ⟨u,H3,I3,pu,q3⟩=>?_)
 rw [evalPart_none];refine wpAny_pure ?_;have I4:Inv X pins σ H3 { s3 with heap:=s3.heap.push { cls:=.type "slice",data:=.fields #[vl,vu,.none] } }:=I3.kept (t':=s3.toks) fun b ob q=>Heap.get?_push_of_some _ q
 obtain ⟨T,id,hT,ht,hg⟩:=hr pins { s3 with heap:=s3.heap.push { cls:=.type "slice",data:=.fields #[vl,vu,.none] } } σ H3 x v vl vu l u s3.heap.objs.size Q I4 r1 (Heap.IsSliceOf.new ..) pl pu q3;show wpAny (model X.prog X.w) X.A (subscriptTail e (.Slice lo hi none p2) v (.ref s3.heap.objs.size)) (EP X pins σ Q) X.xe { s3 with heap:=s3.heap.push { cls:=.type "slice",data:=.fields #[vl,vu,.none] } };exact tail_any (ops:=[.ref s3.heap.objs.size,v]) ht hT hg (by with_unfolding_all rfl)
def kH (xs:List V) (lo hi:Option Int):List V:=(xs.drop (HT.sIx xs.length 0 lo)).take (HT.sIx xs.length xs.length hi - HT.sIx xs.length 0 lo)
theorem mf (xs:List V) (lo hi:Option Int):(kH xs lo hi).length <= xs.length:=by
 unfold kH;rw [List.length_take,List.length_drop];omega
def KZ (K:W.Frag):V->Option Int->Option Int->Hp->VK->Prop:=fun x lo hi H Q=>∃ a xs,x = .ref a/\SqT K H a xs /\
 ¬ (HT.sIx xs.length 0 lo = 0/\HT.sIx xs.length xs.length hi = xs.length)/\∀ p,H p = none->Q (.ref p) (upd H p (.tup (kH xs lo hi)))
theorem Hv:SlR X (KZ X.K):=by
 intro pins s σ H x v vl vu lo hi sl Q I rx hs pl pu h;obtain ⟨a,xs,rfl,hx,hw,q⟩:=h
 cases rx
 obtain ⟨its,r,ht,hz⟩:=I.tuple hx;have hlen:its.toArray.size = xs.length:=by rw [List.size_toArray];exact r.length.symm
 refine ⟨"tuple",_,PyProof.Rows.slot_tuple_getitem.lookup,ht.typeIs,?_⟩;refine HT.getItem_tuple_cut ht hs pl pu (by rw [hlen];exact hw) ?_ (by rw [hlen];exact hz);rw [hlen];refine ⟨.ref s.heap.objs.size,_,I.laid (t':=s.toks) (o:=.tup (kH xs lo hi)) (fun b ob q=>Heap.get?_push_of_some _ q) (Nat.le_refl _) ?_,rfl,q _ (I.hok.fresh (Nat.le_refl _))⟩;exact ⟨Nat.le_trans (mf xs lo hi) hz,_,(r.drop (HT.sIx xs.length 0 lo)).take (HT.sIx xs.length xs.length hi - HT.sIx xs.length 0 lo),IsTup.new _ _⟩
def GA (K:W.Frag):R2:=fun x y H Q=>∃ a b xs ys,x = .ref a/\y = .ref b/\SqT K H a xs/\SqT K H b ys/\xs ≠ []/\xs.length + ys.length <= sizeLine /\
 (ys = []->Q (.ref a) H)/\(ys ≠ []->∀ p,H p = none->Q (.ref p) (upd H p (.tup (xs ++ ys))))
theorem Vals.nil_iff {us:List Value} (r:Vals xs us):us = [] ↔ xs = []:=by
 cases r with
 | nil=>simp
 | cons _ _=>simp
theorem EW:OpR X (binaryOp .Add) (GA X.K):=by
 intro pins s σ H x y v u Q I rx ry h;obtain ⟨a,b,xs,ys,rfl,rfl,ha,hb,hx,hz,q1,q2⟩:=h
 cases rx
 cases ry
 obtain ⟨its,r1,p1,_⟩:=I.tuple ha;obtain ⟨iX,r2,p2,_⟩:=I.tuple hb;refine HT.cat_tup p1 p2 (fun z=>hx (r1.nil_iff.mp z)) (fun z=>⟨.ref a,H,I,rfl,q1 (r2.nil_iff.mp z)⟩) (fun z=>?_) (by rw [<- r1.length,<- r2.length];exact hz)
 refine ⟨.ref s.heap.objs.size,_,I.laid (t':=s.toks) (o:=.tup (xs ++ ys)) (fun b ob q=>Heap.get?_push_of_some _ q) (Nat.le_refl _) ?_,rfl,q2 (fun w=>z (r2.nil_iff.mpr w)) _ (I.hok.fresh (Nat.le_refl _))⟩;exact ⟨by rw [List.length_append];exact hz,_,r1.append r2,IsTup.new _ _⟩
end
def GJ (n:Nat) (i:Int):Option Nat:=if 0 <= i then (if i < n then some i.toNat else none) else if -(n:Int) <= i then some (i + n).toNat else none
def mS (xs:List α) (i:Int):Option α:=(GJ xs.length i).bind fun j=>xs[j]?
theorem Fl {i:Int} {j:Nat} (h:GJ n i = some j):seqIndex? i n = some j/\j < n/\-(n:Int) <= i/\i < n:=by
 unfold GJ at h
 by_cases h0:0 <= i
 ·rw [if_pos h0] at h
  by_cases h1:i < n
  ·rw [if_pos h1] at h;have e:i.toNat = j:=Option.some.inj h;exact ⟨by rw [seqIndex_of h0 h1,e],by omega,by omega,h1⟩
  ·rw [if_neg h1] at h;cases h
 ·rw [if_neg h0] at h
  by_cases h1:-(n:Int) <= i
  ·rw [if_pos h1] at h;have e:(i + n).toNat = j:=Option.some.inj h;exact ⟨by rw [seqIndex_neg (by omega) h1,e],by omega,h1,by omega⟩
  ·rw [if_neg h1] at h;cases h
theorem sZ {xs:List α} {i:Int} {v:α} (h:mS xs i = some v):∃ j,seqIndex? i xs.length = some j/\xs[j]? = some v/\j < xs.length/\-(xs.length:Int) <= i/\i < xs.length:=by
 unfold mS at h
 cases e:GJ xs.length i with
 | none=>rw [e] at h;cases h
 | some j =>
  rw [e] at h;obtain ⟨h1,h2,h3,h4⟩:=Fl e;exact ⟨j,h1,h,h2,h3,h4⟩
theorem bZ {xs:List α} {j:Nat} {v:α} (h:xs[j]? = some v):mS xs (j:Int) = some v:=by
 have hj:j < xs.length:=(List.getElem?_eq_some_iff.mp h).1;have e:GJ xs.length (j:Int) = some j:=by
  unfold GJ;rw [if_pos (by omega),if_pos (by omega)];simp
 unfold mS;rw [e];exact h
theorem Dq (xs:List α) (v:α):mS (xs ++ [v]) (-1) = some v:=by
 have hl:(xs ++ [v]).length = xs.length + 1:=by simp
 have e:GJ (xs ++ [v]).length (-1) = some xs.length:=by
  unfold GJ;rw [hl,if_neg (by decide),if_pos (by omega)]
  congr 1
  omega
 unfold mS;rw [e];show (xs ++ [v])[xs.length]? = some v;simp
def yQ (b:Expr):Prop:=∀ o i,subscripted b false o i = operate [o,i] (getItem o i)
def IxR (X:Cx) (r:R2):Prop :=
 ∀ (value slice:Expr) (pins:List (Addr × Obj)) (s:Shared) (σ:St) (H:Hp) (x y:V) (v u:Value) (Q:VK),Inv X pins σ H s->RelV x v->RelV y u->r x y H Q ->
  subscripted slice false v u = operate [v,u] (getItem v u)->wpAny (model X.prog X.w) X.A (subscriptTail value slice v u) (EP X pins σ Q) X.xe s
def Z2 (X:Cx) (id:String) (r:V->List V->Hp->VK->Prop):Prop :=
 ∀ (pins:List (Addr × Obj)) (s:Shared) (σ:St) (H:Hp) (x:V) (xs:List V) (v:Value) (us:List Value) (Q:VK),Inv X pins σ H s->RelV x v->Vals xs us->r x xs H Q ->
  wpAny (model X.prog X.w) X.A (call (.builtin id) (v :: us)) (EP X pins σ Q) X.xe s
section
variable {a b:Expr} {ta tb:TE} {pos:Pos}
theorem IxR.or {r r':R2} (h:IxR X r) (h':IxR X r'):IxR X (fun x y H Q=>r x y H Q \/ r' x y H Q):=by
 intro value slice pins s σ H x y v u Q I rx ry q hs
 rcases q with q | q
 ·exact h value slice pins s σ H x y v u Q I rx ry q hs
 ·exact h' value slice pins s σ H x y v u Q I rx ry q hs
theorem Lh {r:R2} (hr:IxR X r) (ha:PE X a ta) (hb:PE X b tb) (hs:yQ b):PE X (.Subscript a b pos) (An r ta tb):=by
 intro pins s σ H Q I h;exact Subscript_ (JT ha hb I h fun v u s2 x y H2 I2 rx ry q=>hr a b pins s2 σ H2 x y v u Q I2 rx ry q (hs _ _))
def K6 (K:W.Frag):R2:=fun x y H Q=>∃ p xs i v,x = .ref p/\y = .int i/\SqL K H p xs/\mS xs i = some v/\Q v H
def K4 (K:W.Frag):R2:=fun x y H Q=>∃ p xs i v,x = .ref p/\y = .int i/\SqT K H p xs/\mS xs i = some v/\Q v H
def K5:R2:=fun x y H Q=>∃ z i c,x = .str z/\y = .int i/\z.length <= sizeLine/\mS z.cps.toList i = some c/\Q (.str ⟨#[c]⟩) H
theorem Fj:IxR X (K6 X.K):=by
 intro value slice pins s σ H x y v u Q I rx ry h hs;obtain ⟨p,xs,i,z,rfl,rfl,hq,he,q⟩:=h
 cases rx
 obtain ⟨t,rfl⟩:=ry;obtain ⟨its,r,pl,hz⟩:=I.list hq;obtain ⟨j,h1,h2,h3,h4,h5⟩:=sZ he;obtain ⟨w,ew,Bg⟩:=r.get h2;have hl:=r.length;have hn:=sL;have fin:EP X pins σ Q w s:=⟨z,H,I,Bg,q⟩
 by_cases h0:0 <= i
 ·have hj:i.toNat = j:=by
   rw [seqIndex_of h0 h5] at h1;exact Option.some.inj h1
  exact item_listR pl.isList h0 (by omega) (by rw [hj];simpa using ew) fin hs
 ·have hj:(i + (its.toArray.size:Int)).toNat = j:=by
   rw [seqIndex_neg (by omega) h4] at h1;rw [List.size_toArray,<- hl];exact Option.some.inj h1
  exact subscriptTail_builtinR (x:=w) pl.isList.typeIs slot_list_getitem.lookup
   (wpAny_getItem_list_neg (Q:=fun r s'=>r = w/\EP X pins σ Q r s') pl.isList (by omega) (by rw [List.size_toArray] <;> omega) (by omega) (by rw [hj];simpa using ew) ⟨rfl,fin⟩) hs
theorem Jm:IxR X (K4 X.K):=by
 intro value slice pins s σ H x y v u Q I rx ry h hs;obtain ⟨p,xs,i,z,rfl,rfl,hq,he,q⟩:=h
 cases rx
 obtain ⟨t,rfl⟩:=ry;obtain ⟨its,r,pl,hz⟩:=I.tuple hq;obtain ⟨j,h1,h2,h3,h4,h5⟩:=sZ he;obtain ⟨w,ew,Bg⟩:=r.get h2;have hl:=r.length;have hn:=sL;have fin:EP X pins σ Q w s:=⟨z,H,I,Bg,q⟩;exact subscriptTail_builtinR (x:=w) pl.typeIs slot_tuple_getitem.lookup
  (getItem_tuple (j:=j) (Q:=fun r s'=>r = w/\EP X pins σ Q r s') pl (by omega) (by omega) (by rw [List.size_toArray,<- hl];exact h1) (by simpa using ew) ⟨rfl,fin⟩) hs
theorem Jn:IxR X K5:=by
 intro value slice pins s σ H x y v u Q I rx ry h hs;obtain ⟨z,i,c,rfl,rfl,hz,he,q⟩:=h;obtain ⟨t,rfl⟩:=rx;obtain ⟨t',rfl⟩:=ry;obtain ⟨j,h1,h2,h3,h4,h5⟩:=sZ he;have hl:z.cps.toList.length = z.length:=by simp [Str.length]
 rw [hl] at h1 h4 h5;have hn:=sL;exact tail_any (typeIs_str s z t) slot_str_getitem.lookup (getItem_str (c:=c) (by
  have e1:decide (i < -(2 ^ 63:Int)) = false:=decide_eq_false (by omega);have e2:decide (i >= 2 ^ 63) = false:=decide_eq_false (by omega);rw [e1,e2,Bool.or_false]) (by rw [h1];simpa using h2) ⟨.str ⟨#[c]⟩,H,I.tok _,⟨_,rfl⟩,q⟩) hs
def En (K:W.Frag):R2:=fun x y H Q=>K6 K x y H Q \/ K4 K x y H Q \/ K5 x y H Q
theorem ak:IxR X (En X.K):=Fj.or (Jm.or Jn)
theorem Inv.lst {pins : List (Addr × Obj)} {σ : St} {H : Hp} {s : Shared} {p : Addr} {xs : List V} (I : Inv X pins σ H s) (h : H p = some (.lst xs)) :
    ∃ (its:List Value) (n:Nat),Vals xs its/\s.heap.get? p = some { cls:=.type "list",data:=.seq its.toArray n }/\xs.length <= sizeLine:=by
 obtain ⟨z,its,n,r,e⟩:=I.hok p _ h;exact ⟨its,n,r,e,z⟩
theorem rJ (lo hi:Option Int) (n:Nat):(sliceBounds lo hi none n).1 = ((HT.sIx n 0 lo:Nat):Int)/\(sliceBounds lo hi none n).2.1 = ((HT.sIx n n hi:Nat):Int)/\(sliceBounds lo hi none n).2.2 = 1:=by
 refine ⟨?_,?_,rfl⟩
 ·cases lo with
  | none=>simp [sliceBounds,HT.sIx]
  | some i =>
   simp only [sliceBounds,HT.sIx,Option.getD_none,show (1:Int) > 0 by decide,if_true]
   by_cases h:i < 0
   ·simp only [h,if_true] <;> omega
   ·simp only [h,if_false] <;> omega
 ·cases hi with
  | none=>simp [sliceBounds,HT.sIx]
  | some i =>
   simp only [sliceBounds,HT.sIx,Option.getD_none,show (1:Int) > 0 by decide,if_true]
   by_cases h:i < 0
   ·simp only [h,if_true] <;> omega
   ·simp only [h,if_false] <;> omega
theorem pN (its:List Value) (lo hi:Option Int):slicePick its.toArray lo hi none = ((its.drop (HT.sIx its.length 0 lo)).take (HT.sIx its.length its.length hi - HT.sIx its.length 0 lo)).toArray:=by
 obtain ⟨h1,h2,h3⟩:=rJ lo hi its.toArray.size;unfold slicePick;rw [h1,h2,h3];simp only [sliceRange_one,pick_run,List.size_toArray] <;> rfl
def K1 (K:W.Frag):V->Option Int->Option Int->Hp->VK->Prop:=fun x lo hi H Q=>∃ a xs,x = .ref a/\SqL K H a xs/\∀ p,H p = none->Q (.ref p) (upd H p (.lst (kH xs lo hi)))
theorem D4:SlR X (K1 X.K):=by
 intro pins s σ H x v vl vu lo hi sl Q I rx hs pl pu h;obtain ⟨a,xs,rfl,hx,q⟩:=h
 cases rx
 obtain ⟨its,r,ht,hz⟩:=I.list hx;have hlen:=r.length;refine ⟨"list",_,slot_list_getitem.lookup,ht.isList.typeIs,?_⟩;refine wpAny_getItem_list_slice ht.isList hs pl pu .none (by simp) ?_ (by rw [List.size_toArray] <;> omega);rw [pN,<- hlen];refine ⟨.ref s.heap.objs.size,_,I.laid (t':=s.toks) (o:=.lst (kH xs lo hi)) (fun b ob q=>Heap.get?_push_of_some _ q) (Nat.le_refl _) ?_,rfl,q _ (I.hok.fresh (Nat.le_refl _))⟩
 exact ⟨Nat.le_trans (mf xs lo hi) hz,_,0,(r.drop (HT.sIx xs.length 0 lo)).take (HT.sIx xs.length xs.length hi - HT.sIx xs.length 0 lo),Heap.get?_push_size _ rfl⟩
def kD:V->Bool
 | .non=>true
 | .bl _=>true
 | .int _=>true
 | .str _=>true
 | _=>false
def GY:V->V->Bool
 | .non,.non=>true
 | .bl a,.bl b=>a == b
 | .bl a,.int b=>(if a then 1 else 0) == b
 | .int a,.bl b=>a == (if b then 1 else 0)
 | .int a,.int b=>a == b
 | .str a,.str b=>a == b
 | _,_=>false
theorem JJ {A:Around} {y:V} {u:Value} (ry:RelV y u) (rx:RelV x v) (fy:kD y = true) (fx:kD x = true):SeqAt.EqAt A s u v (GY y x):=by
 cases y with
 | non =>
  cases ry
  cases x with
  | non=>cases rx;exact SeqAt.EqAt.same _
  | bl b=>cases rx;exact SeqAt.EqAt.none_bool b
  | int b=>obtain ⟨t,rfl⟩:=rx;exact SeqAt.EqAt.none_int b t
  | str b=>obtain ⟨t,rfl⟩:=rx;exact SeqAt.EqAt.none_str b t
  | _=>exact absurd (show false = true from fx) Bool.false_ne_true
 | bl a =>
  cases ry
  cases x with
  | non=>cases rx;exact SeqAt.EqAt.bool_none a
  | bl b=>cases rx;exact SeqAt.EqAt.bool_bool a b
  | int b=>obtain ⟨t,rfl⟩:=rx;exact SeqAt.EqAt.bool_int a b t
  | str b=>obtain ⟨t,rfl⟩:=rx;exact SeqAt.EqAt.bool_str a b t
  | _=>exact absurd (show false = true from fx) Bool.false_ne_true
 | int a =>
  obtain ⟨t',rfl⟩:=ry
  cases x with
  | non=>cases rx;exact SeqAt.EqAt.int_none a t'
  | bl b=>cases rx;exact SeqAt.EqAt.int_bool a t' b
  | int b=>obtain ⟨t,rfl⟩:=rx;exact SeqAt.EqAt.int_int a t' b t
  | str b=>obtain ⟨t,rfl⟩:=rx;exact SeqAt.EqAt.int_str a t' b t
  | _=>exact absurd (show false = true from fx) Bool.false_ne_true
 | str a =>
  obtain ⟨t',rfl⟩:=ry
  cases x with
  | non=>cases rx;exact SeqAt.EqAt.str_none a t'
  | bl b=>cases rx;exact SeqAt.EqAt.str_bool a t' b
  | int b=>obtain ⟨t,rfl⟩:=rx;exact SeqAt.EqAt.str_int a t' b t
  | str b=>obtain ⟨t,rfl⟩:=rx;exact SeqAt.EqAt.str_str a t' b t
  | _=>exact absurd (show false = true from fx) Bool.false_ne_true
 | _=>exact absurd (show false = true from fy) Bool.false_ne_true
def Fy (x:V) (u:Value):Bool:=match u with
 | .none=>GY .non x
 | .bool b=>GY (.bl b) x
 | .int i _=>GY (.int i) x
 | .str z _=>GY (.str z) x
 | _=>false
theorem C1 {y:V} {u:Value} (r:RelV y u) (f:kD y = true):Fy x u = GY y x:=by
 cases y with
 | non=>cases r;rfl
 | bl b=>cases r;rfl
 | int i=>obtain ⟨t,rfl⟩:=r;rfl
 | str z=>obtain ⟨t,rfl⟩:=r;rfl
 | _=>exact absurd (show false = true from f) Bool.false_ne_true
theorem ti {x:V}:∀ {xs:List V} {us:List Value},Vals xs us->xs.all kD = true->us.any (Fy x) = xs.any fun y=>GY y x
 | _,_,.nil,_=>rfl
 | y :: xs,u :: us,.cons r t,f=>by
  rw [List.all_cons,Bool.and_eq_true] at f;rw [List.any_cons,List.any_cons,C1 r f.1,ti t f.2]
theorem oo {A:Around} {s:Shared} {x:V} {v:Value} (rx:RelV x v) (fx:kD x = true):∀ {xs:List V} {us:List Value},Vals xs us->xs.all kD = true->∀ u ∈ us,SeqAt.EqAt A s u v (Fy x u)
 | _,_,.nil,_=>fun u hu=>by cases hu
 | y :: xs,u :: us,.cons r t,f=>fun u' hu=>by
  rw [List.all_cons,Bool.and_eq_true] at f
  rcases List.mem_cons.mp hu with rfl | hu
  ·rw [C1 r f.1];exact JJ r rx f.1 fx
  ·exact oo rx fx t f.2 u' hu
def Y7 (x:V) (xs:List V):Bool:=xs.any fun y=>GY y x
def YT (K:W.Frag) (neg:Bool):R2:=fun x y H Q=>∃ p xs,y = .ref p/\(SqL K H p xs \/ SqT K H p xs)/\kD x = true/\xs.all kD = true/\Q (.bl (if neg then !Y7 x xs else Y7 x xs)) H
theorem rX:OpR X (compareOp .NotIn) (YT X.K true):=by
 intro pins s σ H x y v u Q I rx ry h;obtain ⟨p,xs,rfl,hq,fx,fs,q⟩:=h
 cases ry
 rcases hq with hq | hq
 ·obtain ⟨its,r,pl,hz⟩:=I.list hq;refine SeqAt.notIn_listAt (Fy x) pl.isList (fun w hw=>oo rx fx r fs w (by simpa using hw)) ⟨.bl _,H,I,rfl,?_⟩
  rw [show its.toArray.any (Fy x) = its.any (Fy x) by simp,ti r fs];exact q
 ·obtain ⟨its,r,pl,hz⟩:=I.tuple hq;refine SeqAt.notIn_tupleAt (Fy x) pl (fun w hw=>oo rx fx r fs w (by simpa using hw)) ⟨.bl _,H,I,rfl,?_⟩
  rw [show its.toArray.any (Fy x) = its.any (Fy x) by simp,ti r fs];exact q
theorem sV:cN X (.type "list") (fun xs H Q=>∃ p ys,xs = [.ref p]/\(SqL X.K H p ys \/ SqT X.K H p ys)/\∀ l,H l = none->Q (.ref l) (upd H l (.lst ys))):=by
 intro pins s σ H xs us Q I r h;obtain ⟨p,ys,rfl,hq,q⟩:=h;obtain ⟨u,rfl,rx⟩:=vals1 r
 cases rx
 have fin : ∀ (its : List Value), Vals ys its -> ys.length <= sizeLine -> ∀ (h' : Heap) (c' : Nat), (∀ b o', s.heap.get? b = some o' -> h'.get? b = some o') ->
     h'.get? s.heap.objs.size = some { cls:=.type "list",dict:=none,data:=.seq its.toArray c',slots:=#[] }->EP X pins σ Q (.ref s.heap.objs.size) { s with heap:=h' }:=fun its r' hz h' c' kp e =>
  ⟨.ref s.heap.objs.size,_,I.laid (t':=s.toks) kp (Nat.le_refl _) (show ObjOk X.prog X.w _ h' _ (.lst ys) from ⟨hz,its,c',r',e⟩),rfl,q _ (I.hok.fresh (Nat.le_refl _))⟩
 rcases hq with hq | hq
 ·obtain ⟨its,r',pl,hz⟩:=I.list hq;have hlen:=r'.length;obtain ⟨o,ho,hc,n,hd⟩:=pl.isList;exact call_list_seq p (.inl rfl) ho hc hd (fun h' c' kp e=>fin its r' hz h' c' kp e) (by simp only [List.size_toArray] <;> omega)
 ·obtain ⟨its,r',pl,hz⟩:=I.tuple hq;have hlen:=r'.length;obtain ⟨o,ho,hc,n,hd⟩:=pl;exact call_list_seq p (.inr rfl) ho hc hd (fun h' c' kp e=>fin its r' hz h' c' kp e) (by simp only [List.size_toArray] <;> omega)
theorem p7:cN X (.type "tuple") (fun xs H Q=>∃ p ys,xs = [.ref p]/\((SqL X.K H p ys/\∀ l,H l = none->Q (.ref l) (upd H l (.tup ys))) \/ (SqT X.K H p ys/\Q (.ref p) H))):=by
 intro pins s σ H xs us Q I r h;obtain ⟨p,ys,rfl,h⟩:=h;obtain ⟨u,rfl,rx⟩:=vals1 r
 cases rx
 rcases h with ⟨hq,q⟩ | ⟨hq,q⟩
 ·obtain ⟨its,r',pl,hz⟩:=I.list hq;have hlen:=r'.length;refine call_tuple_list pl.isList (fun h' kp=>?_) (by simp only [List.size_toArray] <;> omega)
  have I1:Inv X pins σ H { s with heap:=h' }:=I.kept (t':=s.toks) kp;have I2:Inv X pins σ (upd H h'.objs.size (.tup ys)) { s with heap:=h'.push { cls:=.type "tuple",data:=.seq its.toArray } } :=
   I1.laid (t':=s.toks) (fun b o e=>Heap.get?_push_of_some _ e) (Nat.le_refl _) (show ObjOk X.prog X.w _ _ _ (.tup ys) from ⟨hz,its,r',IsTup.new _ _⟩)
  exact ⟨.ref h'.objs.size,_,I2,rfl,q _ (I1.hok.fresh (Nat.le_refl _))⟩
 ·obtain ⟨its,r',pl,hz⟩:=I.tuple hq;exact call_tuple_same pl ⟨.ref p,H,I,rfl,q⟩
def NF (K:W.Frag) (T:String) (x:V) (H:Hp):Prop:=match x with
 | .str _=>T = "str"
 | .int _=>T = "int"
 | .ref p => (T = "list" /\ ∃ xs, SqL K H p xs) \/ (T = "tuple" /\ ∃ o, K.lookup p = some o /\ o.cls = .type "tuple" /\ o.dict = none) \/
     (T = "dict"/\((∃ aF,H p = some (.dK aF)) \/ ∃ aF,H p = some (.dT aF))) \/ (T = "set"/\∃ S n,H p = some (.set S n))
 | _=>False
theorem G8 {T : String} (I : Inv X pins σ H s) (r : RelV x v) (ty : NF X.K T x H) :
    s.TypeIs v T/\∀ a,v = .ref a->∃ ob,s.heap.get? a = some ob/\ob.dict = none:=by
 cases x with
 | str z =>
  obtain ⟨t,rfl⟩:=r
  cases (show T = "str" from ty)
  exact ⟨typeIs_str s z t,fun _ e=>nomatch e⟩
 | int i =>
  obtain ⟨t,rfl⟩:=r
  cases (show T = "int" from ty)
  exact ⟨typeIs_int s i t,fun _ e=>nomatch e⟩
 | ref p =>
  cases r
  rcases ty with ⟨rfl,xs,hq⟩ | ⟨rfl,o,hk,hc,hd⟩ | ⟨rfl,hk⟩ | ⟨rfl,S,n,hk⟩
  ·obtain ⟨its,_,pl,_⟩:=I.list hq;refine ⟨pl.isList.typeIs,fun a e=>?_⟩
   cases e
   obtain ⟨o,n,e,c,hd,_⟩:=pl;exact ⟨o,e,hd⟩
  ·refine ⟨⟨o,I.kIn p o hk,hc⟩,fun a e=>?_⟩
   cases e
   exact ⟨o,I.kIn _ o hk,hd⟩
  ·have z:∃ o,s.heap.get? p = some o/\o.ExactDict:=by
    rcases hk with ⟨aF,hk⟩ | ⟨aF,hk⟩
    ·obtain ⟨_,_,_,_,o,_,_,e,ex,_⟩:=I.hok p _ hk;exact ⟨o,e,ex⟩
    ·obtain ⟨_,_,_,_,o,_,_,e,ex,_⟩:=I.hok p _ hk;exact ⟨o,e,ex⟩
   obtain ⟨o,e,ex⟩:=z;refine ⟨⟨o,e,ex.1⟩,fun a e2=>?_⟩
   cases e2
   exact ⟨o,e,ex.2.1⟩
  ·obtain ⟨o,_,_,_,e,ex,_⟩:=I.hok p _ hk;refine ⟨⟨o,e,ex.1⟩,fun a e2=>?_⟩
   cases e2
   exact ⟨o,e,ex.2.1⟩
 | _=>exact False.elim ty
def DP (K:W.Frag) (T:String) (r:V->List V->Hp->VK->Prop) (to:TE) (t:TA):TE:=fun σ H Q=>to σ H fun x H1=>NF K T x H1/\t σ H1 fun xs H2=>r x xs H2 Q
variable {o e:Expr} {es:List Expr} {to:TE} {t:TA} {name:Str} {apos cH:Pos} {T id:String} {r:V->List V->Hp->VK->Prop}
theorem nU (pa : PlainAttrs T) (slot : Slot T name id) (GP : typeOf (.builtin id) = pure (.type "method_descriptor")) (hm : Z2 X id r) (ho : PE X o to) (ha : PA X (e :: es) t)
    (gc:attributeBase o name X.env (eval o X.env) = eval o X.env:=by rfl)
    (j4:((backTo cH (starEach (e :: es) X.env)).all (fun x=>!x.1) && (backToKw cH (keywordEach [] X.env)).all (fun x=>x.1.isSome)
     && decide ((e :: es).length + ([]:List Keyword).length + (if ([]:List Keyword).isEmpty then 0 else 1) < 30)) = true:=by rfl)
    (fY:(apos.endLine == cH.line) = true:=by rfl) (hs:starEach (e :: es) X.env = (false,eval e X.env) :: starEach es X.env:=by rfl) (Ju:(backTo cH (starEach es X.env)).any (·.1) = false:=by rfl) :
    PE X (.Call (.Attribute o name apos) (e :: es) [] cH) (DP X.K T r to t):=by
 intro pins s σ H Q I h;refine wpAny_Call_method_late gc j4 fY rfl (cz (ho pins s σ H _ I h) fun v s1 ⟨x,H1,I1,r1,ty,q1⟩=>?_)
 obtain ⟨h1,h2⟩:=G8 I1 r1 ty;refine ⟨T,id,pa,slot,GP,h1,h2,?_⟩;have hA:=ha cH pins s1 σ H1 _ I1 q1;rw [hs] at hA ⊢;refine Calls.callWith_builtin (by show (false || (backTo cH (starEach es X.env)).any (·.1)) = false;rw [Ju] <;> rfl) (Calls.evalArgs_plain ?_);exact cz hA fun us s2 ⟨vs,H2,I2,r2,q2⟩=>hm pins s2 σ H2 x vs v us Q I2 r1 r2 q2
/- xs.append(e),list.index on a module's tuple .. are Z2 facts of 06m -/
end
def J7 (X:Cx) (id:String) (r:V->List V->Hp->VK->Prop):Prop :=
 ∀ (pins:List (Addr × Obj)) (s:Shared) (σ:St) (H:Hp) (x:V) (xs:List V) (v:Value) (us:List Value) (Q:VK),Inv X pins σ H s->RelV x v->Vals xs us->r x xs H Q ->
  wpAny (model X.prog X.w) X.A (call (.builtin id) (v :: us)) (EP X pins σ Q) X.xe s
theorem Vals.one:∀ {x:V} {us:List Value},Vals [x] us->∃ u,us = [u]/\RelV x u
 | _,_,.cons r .nil=>⟨_,rfl,r⟩
theorem Vals.zero:∀ {us:List Value},Vals [] us->us = []
 | _,.nil=>rfl
theorem Vals.rep {xs:List V} {us:List Value} (h:Vals xs us):∀ k:Nat,Vals (List.replicate k xs).flatten (List.replicate k us).flatten
 | 0=>.nil
 | k + 1=>by
  rw [List.replicate_succ,List.replicate_succ,List.flatten_cons,List.flatten_cons];exact Vals.append h (Vals.rep h k)
theorem foldl_rep (its : List Value) : ∀ (k : Nat) (acc : List Value),
    List.foldl (fun x1 x2=>x1 ++ x2) acc.toArray (List.replicate k its.toArray) = (acc ++ (List.replicate k its).flatten).toArray
 | 0,acc=>by simp
 | k + 1,acc=>by
  have e:acc.toArray ++ its.toArray = (acc ++ its).toArray:=by simp
  have e2:(acc ++ its) ++ (List.replicate k its).flatten = acc ++ (List.replicate (k + 1) its).flatten:=by
   rw [List.replicate_succ,List.flatten_cons,List.append_assoc]
  rw [<- e2,<- foldl_rep its k (acc ++ its),<- e,List.replicate_succ,List.foldl_cons]
section
variable {l b:Addr} {ys zs:List V}
theorem Inv.lset {its its' : List Value} {f : Array Value -> Array Value} {t' : Nat} (I : Inv X pins σ H s) (hH : H l = some (.lst xs))
    (e:s.heap.get? l = some { cls:=.type "list",data:=.seq its.toArray n }) (hf:f its.toArray = its'.toArray) (hv:Vals ys its') (hz:ys.length <= sizeLine) :
    Inv X pins σ (upd H l (.lst ys)) { s with heap:=s.heap.update l (Obj.mapSeq f),toks:=t' }:=by
 have q:=PySem.IsL.update e f;rw [hf] at q;refine I.write (x:=l) (e:=l) (by rw [hH];exact trivial) (.inl rfl) (fun b' u hb hu=>(Heap.get?_update_other s.heap (Obj.mapSeq f) (Ne.symm hb)).trans hu) ⟨_,q⟩ ?_
 exact ⟨hz,its',_,hv,q⟩
theorem Inv.lnew {its : List Value} {t' : Nat} (I : Inv X pins σ H s) (hv : Vals ys its) (hz : ys.length <= sizeLine) :
    Inv X pins σ (upd H s.heap.objs.size (.lst ys)) { s with heap:=s.heap.push { cls:=.type "list",data:=.seq its.toArray },toks:=t' } :=
 I.laid (fun _ _ q=>Heap.get?_push_of_some _ q) (Nat.le_refl _) ⟨hz,its,0,hv,Heap.get?_push_size _ rfl⟩
theorem Inv.fresh (I:Inv X pins σ H s):H s.heap.objs.size = none:=I.hok.fresh (Nat.le_refl _)
theorem Inv.lstM (I:Inv X pins σ H s) (hH:H l = some (.lst xs)):xs.length <= sizeLine/\∃ (its:List Value) (n:Nat),Vals xs its/\xs.length = its.length/\s.heap.get? l = some { cls:=.type "list",data:=.seq its.toArray n }:=by
 obtain ⟨z,its,n,r,e⟩:=I.hok l _ hH;exact ⟨z,its,n,r,r.length,e⟩
theorem Co (h:n <= sizeLine):Builtin.List.listTooLong n = false:=by
 unfold Builtin.List.listTooLong;exact decide_eq_false (by omega)
end
section
def rT:V->List V->Hp->VK->Prop:=fun x vs H Q=>∃ l xs y,x = .ref l/\vs = [y]/\H l = some (.lst xs)/\xs.length < sizeLine/\Q .non (upd H l (.lst (xs ++ [y])))
theorem zD:J7 X "list.append" rT:=by
 intro pins s σ H x vs v us Q I rx rv h;obtain ⟨l,xs,y,rfl,rfl,hH,hz,q⟩:=h
 cases rx
 obtain ⟨u,rfl,ru⟩:=rv.one;obtain ⟨z,its,n,r,hl,e⟩:=I.lstM hH;refine call_meets F.slot_list_append ⟨_,e,rfl⟩ F.entry_list_append (F.args_list_append_2 _ _) (PySem.list_append l its.toArray n u (by rw [List.size_toArray];omega)) ⟨e,?_⟩;refine ⟨.non,_,I.lset (its':=its ++ [u]) hH e (by simp) (r.append (.cons ru .nil)) ?_,rfl,q⟩;rw [List.length_append,List.length_singleton];omega
def K7:R2:=fun x y H Q=>∃ l b xs zs,x = .ref l/\y = .ref b/\H l = some (.lst xs)/\H b = some (.lst zs)/\xs.length + zs.length <= sizeLine/\∀ p,H p = none->Q (.ref p) (upd H p (.lst (xs ++ zs)))
theorem IS:OpR X (binaryOp .Add) K7:=by
 intro pins s σ H x y v u Q I rx ry h;obtain ⟨l,b,xs,zs,rfl,rfl,hH,hB,hz,q⟩:=h
 cases rx
 cases ry
 obtain ⟨z,its,n,r,hl,e⟩:=I.lstM hH;obtain ⟨z2,iX,n2,r2,pX,e2⟩:=I.lstM hB;refine PySem.P.add_list e e2 ?_ (by rw [List.size_toArray,List.size_toArray];omega);have ea:its.toArray ++ iX.toArray = (its ++ iX).toArray:=by simp
 rw [ea];exact ⟨.ref _,_,I.lnew (t':=s.toks) (r.append r2) (by rw [List.length_append];omega),rfl,q _ I.fresh⟩
def K2:R2:=fun x y H Q=>∃ l k xs,x = .ref l/\y = .int k/\H l = some (.lst xs)/\-(2 ^ 63) <= k/\k < 2 ^ 63/\xs.length * k.toNat <= sizeLine /\
 ∀ p,H p = none->Q (.ref p) (upd H p (.lst (List.replicate k.toNat xs).flatten))
theorem len_rep (xs:List α) (k:Nat):(List.replicate k xs).flatten.length = k * xs.length:=by
 induction k with
 | zero=>simp
 | succ k ih=>rw [List.replicate_succ,List.flatten_cons,List.length_append,ih,Nat.succ_mul,Nat.add_comm]
theorem IL:OpR X (binaryOp .Mult) K2:=by
 intro pins s σ H x y v u Q I rx ry h;obtain ⟨l,k,xs,rfl,rfl,hH,h1,h2,hz,q⟩:=h
 cases rx
 obtain ⟨t,rfl⟩:=ry;obtain ⟨z,its,n,r,hl,e⟩:=I.lstM hH;have hlen:its.toArray.size * k.toNat <= sizeLine:=by rw [List.size_toArray,<- hl];exact hz
 have UL:¬ its.toArray.size * k.toNat > (2 ^ 63 - 1) / 8:=by
  have:(sizeLine:Nat) <= (2 ^ 63 - 1) / 8:=by decide
  omega
 have UD:¬ (!Builtin.List.listFitsIndex k) = true:=by
  rw [fitsIndex_both h1 h2];exact Bool.false_ne_true
 have LY:¬ Builtin.List.listTooLong (its.toArray.size * k.toNat) = true:=by
  rw [Co hlen];exact Bool.false_ne_true
 have Us:List.foldl (fun x1 x2=>x1 ++ x2) #[] (List.replicate (if its.toArray.isEmpty = true then 0 else k.toNat) its.toArray) = (List.replicate k.toNat its).flatten.toArray:=by
  have f0:∀ m:Nat,List.foldl (fun x1 x2=>x1 ++ x2) #[] (List.replicate m its.toArray) = (List.replicate m its).flatten.toArray:=fun m=>by
   have:=foldl_rep its m [];rw [List.nil_append] at this;exact this
  rw [f0]
  cases its with
  | nil=>simp
  | cons a r'=>rw [if_neg (by simp)]
 refine wpAny_binaryOp_repeat_ref (T:="list") (U:="int") (by decide) ⟨_,e,rfl⟩ (fun s'=>typeIs_int s' k t) noFill_list_mul F.fills_int_mul F.slot_int_rmul repeat_list F.slot_int_index.lookup
  (call_meets F.slot_int_rmul (typeIs_int s k t) F.entry_int_rmul (F.args_int_rmul_2 _ _) (int___rmul___int_list k t l its.toArray n)
   ⟨e,rfl,⟨_,e,rfl⟩,call_meets F.slot_list_mul ⟨_,e,rfl⟩ F.entry_list_mul (F.args_list_mul_2 _ _) (AutoListH.list___mul___list_int_3 l its.toArray n k t UD UL LY) ⟨e,?_⟩⟩)
 rw [Us];exact ⟨.ref _,_,I.lnew (t':=s.toks) (r.rep k.toNat) (by rw [len_rep,Nat.mul_comm];exact hz),rfl,q _ I.fresh⟩
end
end L2
namespace Att
open PySem PySem.W PySem.Calls PyProof.Rows
theorem mP {P:Params} {h:Heap}:∀ (ns:List Int) (vs:List Value),WellAll P h vs (ns.map WData.int)->IntsAre vs ns:=by
 intro ns
 induction ns with
 | nil =>
  intro vs w;rw [List.map_nil] at w
  cases w
  exact .nil
 | cons n ns ih =>
  intro vs w;rw [List.map_cons] at w
  cases w with
  | cons a b =>
   cases a
   exact .cons _ _ (ih _ b)
theorem y7 {l : OpenLaw} {n : Nat} (hn : l.most = some n) {P : Params} {h : Heap} {args : List WData} {vals : List Value}
    (CN:l.row.toRowW.claim.pre args = true) (Ug:WellAll P h vals args) :
    ∃ a vs ns,vals = [Value.ref a]/\args = [WData.list (ns.map WData.int)]/\h.get? a = some { cls:=.type "list",data:=.seq vs.toArray }/\IntsAre vs ns/\ns.length <= n:=by
 have hsh:WShape.hasAll [] args [.list .int] = true:=(pre_splitW CN).1;have hc:l.pre.holds [] { args:=args } = true:=(pre_splitW CN).2;obtain ⟨d,r,rfl,h1,h2⟩:=hasAllW_cons hsh;obtain rfl:=hasAllW_nil h2;obtain ⟨xs,rfl,h3⟩:=hasW_list h1;obtain ⟨ns,rfl⟩:=items_int h3;have hlen:ns.length <= n:=by
  unfold OpenLaw.pre at hc;have h4:(WTm.not (.lt (.lit (.int (n:Int))) (.len (.arg 0)))).holds [] { args:=[.list (ns.map .int)] } = true:=by
   have h4:=(holds_andW hc).1;rw [hn] at h4;exact h4
  have h5:=condW_of h4 (w_not (w_lt w_lit (w_len_list (w_arg rfl))));rw [List.length_map] at h5;refine Nat.le_of_not_lt fun q=>?_
  have q':(n:Int) < ((ns.length:Nat):Int):=by omega
  first
   | (rw [decide_eq_true q'] at h5;exact absurd h5 (by decide))
   | (simp at h5;omega)
 cases Ug with
 | cons w1 w2 =>
  cases w2
  cases w1 with
  | list ho UO=>exact ⟨_,_,ns,rfl,rfl,ho,mP ns _ UO,hlen⟩
theorem zi (l:OpenLaw) (args:List WData):l.row.toRowW.claim.post args (.bool true) args = true :=
 postW_of (r:=l.row.toRowW) (X:=(true == true))
  (show WShape.has [] (.bool true) .bool = true by first | rfl | decide | simp [WShape.has,WShape.arms,WShape.armsAll])
  (show (WTm.eq .res (.lit (.bool true))).value [] { args:=args,res:=some (.bool true),after:=args } = some (.bool (true == true)) from w_eq_bool (w_res rfl) w_lit) rfl
theorem attach_call {l : OpenLaw} {n : Nat} {q : Program} {loose : List Str} {XP : (Str -> Option Value) -> Heap -> Prop} {YP : World -> Heap -> Prop} {d : DefRec}
    (hn:l.most = some n) (Me:d.params.defaults = [])
    (call:∀ (w:World) (s₀ s₁:Shared) (mg mb:Str->Option Value) (fa:Addr) (o:Obj) (pm cd doc:Value) (a:Addr) (vs:List Value) (ns:List Int),
     Ground q loose [] XP w s₀ mg mb s₁.heap->YP w s₁.heap ->
     s₁.heap.get? fa = some o->o.data = .func (docDef d.name d.params d.body d.scope pm cd doc)->s₁.heap.CodeRec cd d.name->mg d.name = some (.ref fa) ->
     s₁.heap.get? a = some { cls:=.type "list",data:=.seq vs.toArray }->IntsAre vs ns->ns.length <= n->s₁.gens = #[] ->
     codeAny (model l.prog w) callerA (.call (.ref fa) ⟨[.ref a],[]⟩) (fun r s'=>r = .ok (.ret (.bool true))/\OldK s₁.heap s'.heap/\s'.os = s₁.os/\AllBare s'.gens) s₁) :
    WalkO q loose XP YP l.row.toRowW d [] (fun f vs=>PySem.call f vs):=by
 intro w s₀ s₁ mg mb G Y fa o pm cd doc dV kV ho hd j5 hD LX hg args vals as CN aeA hrd Ug N2;obtain rfl:dV = .none:=Dflts.none hD Me;obtain rfl:kV = .none:=Dflts.noKw hD;obtain ⟨a,vs,ns,rfl,rfl,Jy,hints,hlen⟩:=y7 hn CN Ug;refine enter_call (codeAny_mono (call w s₀ s₁ mg mb fa o pm cd doc a vs ns G Y ho (fd_plain hd) j5 LX Jy hints hlen hg) fun r s' hq=>?_)
 obtain ⟨rfl,h2,h3,h4⟩:=hq;exact ⟨.inl ⟨.bool true,.bool true,[],rfl,fun _=>rfl,.bool true,zi l _,fun _=>⟨List.Pairwise.nil,fun _ hm=>(nomatch hm)⟩⟩,h2,h3,h4⟩
end Att
namespace L2
open PySem PySem.Spec PyProof.Rows
variable {x qual:Str} {st:Stmt} {f:Addr} {H:Hp}
theorem qc:∀ {vs:List Value} {ns:List Int},IntsAre vs ns->Vals (ns.map V.int) vs
 | _,_,.nil=>.nil
 | _,_,.cons n t h=>.cons ⟨t,rfl⟩ (qc h)
def ar (s:Stmt):Arguments:=match s with
 | .FunctionDef _ a _ _ _ _ _ _ _ _=>a
 | _=>{ posonlyargs:=[],args:=[],vararg:=none,kwonlyargs:=[],kw_defaults:=[],kwarg:=none,defaults:=[] }
def ao (s:Stmt):List Stmt:=match s with
 | .FunctionDef _ _ b _ _ _ _ _ _ _=>b
 | _=>[]
def ae (s:Stmt):Scope:=match s with
 | .FunctionDef _ _ _ _ _ _ sc _ _ _=>sc
 | _=>{ kind:=.function,names:=[],isGenerator:=false,isCoroutine:=false }
abbrev cy:DJ:=fun _ _ _ _ _ _=>False
abbrev E0:XK:=fun _ _ _=>False
theorem Ll {X:Cx}:Passes cy X E0:=fun _ _ _ _ _ _ _ h=>h.elim
structure Fun (K:W.Frag) (x qual:Str) (st:Stmt) (f:Addr) (fd:FuncData):Prop where
 ex:∃ (oc:Value) (od:Option Addr) (kV doc pm:Value) (an:Option Addr) (bq ct:Value) (DF:Array (Option Value)),
  fd = W.fnOf x qual (ar st) (ao st) (ae st) .none kV doc pm an bq ct/\K.lookup f = some ⟨oc,od,.func fd,DF⟩/\W.codeIn K bq qual = true
 kp:W.keepIn K (.ref f) = true
section
variable {P:Program} {w:World} {K:W.Frag} {mg:Str->Option Value} {base:Heap}
theorem Fun.ok {fd : FuncData} {N ps : List Str} {k : Nat} {sp : Sp} (F : Fun K x qual st f fd) (S : aq N ps (ae st)) (len : ∀ vs H Q E, sp vs H Q E -> vs.length = ps.length)
    (fZ:∀ (bq:Value) (A:Around) (outer:List Env) (s:Shared) (H:Hp) (vs:List V) (Q:VK) (E:XK),Room k (A.deeper (envOfC qual (ae st) s.heap.objs.size f bq))->sp vs H Q E ->
     ∃ t,PSs (hX cy P w K mg base N qual (ae st) f bq A outer s H E).nox (ao st) t/\t { nx:=fun _ H'=>Q .non H',rt:=Q } (start N vs) H):FnOk P w K mg base cy (k + 1) f fd ps sp:=by
 obtain ⟨oc,od,kV,doc,pm,an,bq,ct,DF,rfl,lk,j5⟩:=F.ex;refine GW lk j5 S len fun A outer s H vs Q E hr xA=>?_
 obtain ⟨t,h,q⟩:=fZ bq A outer s H vs Q E hr xA;exact ⟨t,h.nox,q⟩
theorem Fun.binds {fd : FuncData} {ps : List Str} (F : Fun K x qual st f fd)
    (h:∀ (kV doc pm:Value) (an:Option Addr) (bq ct:Value) (us:List Value),us.length = ps.length->bindArgs (W.fnOf x qual (ar st) (ao st) (ae st) .none kV doc pm an bq ct) ⟨us,[]⟩ = pure (ps.zip us)):Binds K fd ps []:=by
 obtain ⟨oc,od,kV,doc,pm,an,bq,ct,DF,rfl,lk,j5⟩:=F.ex;exact .all (h kV doc pm an bq ct)
theorem aB {oc : Value} {od an : Option Addr} {DF : Array (Option Value)} {kV doc pm bq ct : Value} (l : K.lookup f = some ⟨oc, od, .func (W.fnOf x qual (ar st) (ao st) (ae st) .none kV doc pm an bq ct), DF⟩)
    (c:W.codeIn K bq qual = true) (k:W.keepIn K (.ref f) = true):Fun K x qual st f (W.fnOf x qual (ar st) (ao st) (ae st) .none kV doc pm an bq ct):=⟨⟨oc,od,kV,doc,pm,an,bq,ct,DF,rfl,l,c⟩,k⟩
end
theorem GO {A:Around} {k:Nat} (hr:Room k A):A.units + 1 < cLine:=Nat.lt_of_le_of_lt (Nat.add_le_add_left (by decide:1 <= 64) _) hr.units
section
variable {X:Cx}
theorem pv (i : Nat) {pos : Pos} (hN : X.N[i]? = some x := by rfl) (hv : Oc X.env.scope x := by first | exact Or.inl rfl | exact Or.inr (Or.inl rfl) | exact Or.inr (Or.inr rfl)) (hd : (x == ("__debug__" : Str)) = false := by decide)
    (j5:(x == ("__classdict__":Str)) = false:=by decide):PE X (.Name x pos) (rG i):=ID hN hv hd j5
end
theorem T9 {A B:Prop} (h:B):if false = true then A else B:=by
 rw [if_neg Bool.false_ne_true];exact h
theorem T8 {A B:Prop} (h:A):if true = true then A else B:=by
 rw [if_pos rfl];exact h
theorem LK {c A B:Prop} [Decidable c] (h1:c->A) (h2:¬ c->B):if c then A else B:=by
 by_cases h:c
 ·rw [if_pos h];exact h1 h
 ·rw [if_neg h];exact h2 h
def Same (H H':Hp):Prop:=∀ b o,H b = some o->H' b = some o
theorem Same.refl (H:Hp):Same H H:=fun _ _ h=>h
theorem Same.trans {H1 H2:Hp} (a:Same H H1) (b:Same H1 H2):Same H H2:=fun c o h=>b c o (a c o h)
theorem Same.free {H':Hp} (e:Same H H') {l:Addr} (h:H' l = Option.none):H l = Option.none:=by
 cases q:H l with
 | none=>rfl
 | some o =>
  rw [e l o q] at h
  cases h
theorem Same.seq {K:W.Frag} {H':Hp} {a:Addr} {xs:List V} (e:Same H H') (h:SqL K H a xs):SqL K H' a xs:=by
 rcases h with (h | ⟨o,h⟩) | h
 ·exact .inl (.inl (e _ _ h))
 ·exact .inl (.inr ⟨o,e _ _ h⟩)
 ·exact .inr h
end L2
set_option maxHeartbeats 4000000
namespace L2
open PySem PySem.Spec PyProof.Rows
variable {P:Program} {w:World} {A:Around} {X:Cx} {scope:Scope} {env:Env} {x:Str} {s:Shared} {pos:Pos} {ix:List Nat} {pins:List (Addr × Obj)} {σ:St} {H H':Hp} {C b a:Addr} {fp:List Addr} {n:Nat} {h':Heap} {tt:TT} {te:TE} {v y:V} {o:Option V} {u:Value} {aF:List (List Key × V)} {xs:List (List Key × Addr × Value)}
def J8 (x:Str):It:=⟨fun i _=>i < x.cps.size,fun i H v H'=>H' = H/\∃ c,x.cps[i]? = some c/\v = .str ⟨#[c]⟩,fun i _=>i = x.cps.size⟩
theorem nj (hh : A.handled = none) (it : Addr) (x : Str) (t : Tok) {ty : String} (GP : ty = "str_ascii_iterator" \/ ty = "str_iterator") :
    Walks P w A it [it] [it] x.cps.size (SignAt x) (fun i h=>h.IsStrIter it ty x t i):=by
 rcases GP with rfl | rfl
 ·exact Walks.strAscii hh it x t
 ·exact Walks.strWide hh it x t
theorem AB {K : W.Frag} {tg : Expr} (x : Str) (t : Tok) (it : Addr) {ty : String} (GP : ty = "str_ascii_iterator" \/ ty = "str_iterator") :
    Turn P w K tg (J8 x) [it] it (fun i h=>h.IsStrIter it ty x t i) where
 mem:=by simp
 obj:=fun i h st b hb=>by
  have e:b = it:=by simpa using hb
  subst e;obtain ⟨o,e,c,d⟩:=st;exact ⟨o,e,fun v z=>by rw [d] at z;cases z⟩
 keep:=fun i h h' st k=>let ⟨o,e,r⟩:=st;⟨o,k it (by simp) o e,r⟩
 item:=by
  intro X hP hw hK hc i pins s σ H E I hf st hg;subst hP hw hK;obtain ⟨f0,f1,f2,f3,f4,f5⟩:=hf it (by simp);refine (nj (I.ok.hd hc) it x t GP).item i s _ _ hg st fun v h' tk hv bA kk=>?_
  obtain ⟨c,u,hx,rfl⟩:=hv;have I1:Inv X pins σ H { s with heap:=h',toks:=tk }:=I.turned (fun b o hb e=>kk b o (by simpa using hb) e) f0 f1 f3 f4 f5
  obtain ⟨o,e,cc,d⟩:=id bA;refine ⟨_,rfl,yB (s:={ s with heap:=h',toks:=tk }) e cc d ?_ ⟨.str ⟨#[c]⟩,H,I1,⟨u,rfl⟩,⟨rfl,c,hx,rfl⟩,bA,fun b hb=>(hf b hb).1⟩⟩
  rcases GP with rfl | rfl <;> decide
 done:=by
  intro X hP hw hK hc i pins s σ H E I hf st hg;subst hP hw hK;obtain ⟨f0,f1,f2,f3,f4,f5⟩:=hf it (by simp);have hg':i = x.cps.size:=hg;subst hg';exact (nj (I.ok.hd hc) it x t GP).done s _ _ st fun h' tk kk=>⟨rfl,I.turned (fun b o hb e=>kk b o (by simpa using hb) e) f0 f1 f3 f4 f5⟩
 self:=fun A i s Q E st h=>by
  rcases GP with rfl | rfl
  ·exact wpAny_pyIter_striter_ascii st h
  ·exact wpAny_pyIter_striter_wide st h
section
variable {tg:Expr}
def Jq (tl:TE):TI:=fun σ H R=>tl σ H fun x H1=>∃ z,x = .str z/\R (J8 z) H1
theorem IC {l:Expr} {tl:TE} (hl:PE X l tl):PI X tg l (Jq tl):=by
 intro pins s σ H R I h;refine cz (hl pins s σ H _ I h) fun v s1 ⟨x,H1,I1,r1,q1⟩=>?_
 obtain ⟨z,e,q⟩:=q1;subst e;obtain ⟨t,rfl⟩:=r1;refine wpAny_pyIter_strU ?_;refine ⟨s1.heap.objs.size,[s1.heap.objs.size],_,_,H1,rfl,I1.kept (t':=s1.toks) fun b o e=>Heap.get?_push_of_some _ e,AB z t _ (ty:=strIterType z) (by unfold strIterType;split <;> simp),⟨_,Heap.get?_push_size _ rfl,rfl,rfl⟩,fun b hb=>?_,q⟩
 have e:b = s1.heap.objs.size:=by simpa using hb
 subst e;exact I1.fpOk (Nat.le_refl _) (I1.hok.fresh (Nat.le_refl _))
end
def pick (ix:List Nat) (σ:St):St:=ix.map fun i=>(σ[i]?).join
def ja (scope:Scope) (env:Env):List (Str × Addr):=scope.names.foldl (fun cs y=>if y.2 == .free then (y.1,(env.cells.lookup y.1).getD 0) :: cs else cs) []
theorem vE (env : Env) : ∀ (l : List (Str × NameKind)) (acc : List (Str × Addr)) (p : Str × Addr), p ∈ l.foldl (fun cs y => if y.2 == NameKind.free then (y.1, (env.cells.lookup y.1).getD 0) :: cs else cs) acc ->
    p ∈ acc \/ ((p.1,NameKind.free) ∈ l/\p.2 = (env.cells.lookup p.1).getD 0)
 | [],_,_,h=>.inl h
 | y :: l,acc,p,h=>by
  rw [List.foldl_cons] at h
  rcases vE env l _ p h with h1 | h1
  ·by_cases hy:(y.2 == NameKind.free) = true
   ·rw [if_pos hy] at h1
    rcases List.mem_cons.mp h1 with e | e
    ·refine .inr ⟨?_,by rw [e]⟩;have hk:y.2 = NameKind.free:=by simpa using hy
     rw [e,<- hk];exact List.mem_cons_self
    ·exact .inl e
   ·rw [if_neg hy] at h1;exact .inl h1
  ·exact .inr ⟨List.mem_cons_of_mem _ h1.1,h1.2⟩
theorem vG (env:Env):∀ (l:List (Str × NameKind)) (acc:List (Str × Addr)) (p:Str × Addr),p ∈ acc->p ∈ l.foldl (fun cs y=>if y.2 == NameKind.free then (y.1,(env.cells.lookup y.1).getD 0) :: cs else cs) acc
 | [],_,_,h=>h
 | y :: l,acc,p,h=>by
  rw [List.foldl_cons];apply vG env l
  split
  ·exact List.mem_cons_of_mem _ h
  ·exact h
theorem vF (env:Env):∀ (l:List (Str × NameKind)) (acc:List (Str × Addr)) (x:Str),(x,NameKind.free) ∈ l->∃ c,(x,c) ∈ l.foldl (fun cs y=>if y.2 == NameKind.free then (y.1,(env.cells.lookup y.1).getD 0) :: cs else cs) acc
 | [],_,_,h=>nomatch h
 | y :: l,acc,x,h=>by
  rw [List.foldl_cons]
  rcases List.mem_cons.mp h with e | e
  ·subst e;refine ⟨(env.cells.lookup x).getD 0,vG env l _ _ ?_⟩;rw [if_pos (by rfl)];exact List.mem_cons_self
  ·exact vF env l _ x e
theorem fU {α:Type}:∀ {l:List (Str × α)} {x:Str} {c:α},(x,c) ∈ l->∃ d,l.lookup x = some d
 | [],_,_,h=>nomatch h
 | (y,d) :: l,x,c,h=>by
  by_cases hx:(x == y) = true
  ·exact ⟨d,by simp [List.lookup_cons,hx]⟩
  ·have zP:(x == y) = false:=by simpa using hx
   rcases List.mem_cons.mp h with e | e
   ·cases e
    simp at hx
   ·obtain ⟨d',e'⟩:=fU e;exact ⟨d',by simp [List.lookup_cons,zP,e']⟩
theorem dq (hf:∀ y ∈ scope.names,y.2 = .free->∃ c,env.cells.lookup y.1 = some c) {c:Addr} (h:(ja scope env).lookup x = some c):env.cells.lookup x = some c:=by
 rcases vE env scope.names [] (x,c) (PySem.mem_of_lookup h) with e | ⟨e1,e2⟩
 ·exact nomatch e
 ·obtain ⟨d,hd⟩:=hf _ e1 rfl;have CS:env.cells.lookup x = some d:=hd;have e3:c = (env.cells.lookup x).getD 0:=e2;rw [CS] at e3 ⊢;rw [e3]
  rfl
theorem qY (h:scope.names.lookup x = some .free):∃ c,(ja scope env).lookup x = some c:=by
 obtain ⟨c,hc⟩:=vF env scope.names [] x (PySem.mem_of_lookup h);exact fU hc
theorem jL (hf:∀ y ∈ scope.names,y.2 = .free->∃ c,env.cells.lookup y.1 = some c):closureFor scope env = pure (ja scope env):=by
 have all : ∀ (l : List (Str × NameKind)) (acc : List (Str × Addr)), (∀ y ∈ l, y.2 = .free -> ∃ c, env.cells.lookup y.1 = some c) ->
     (forIn l acc fun (x:Str × NameKind) (r:List (Str × Addr))=>if (x.2 == NameKind.free) = true then (do let a <- cellOf env x.1;pure (ForInStep.yield ((x.1,a) :: r))) else pure (ForInStep.yield r):Sem (List (Str × Addr))) =
      pure (l.foldl (fun cs y=>if y.2 == .free then (y.1,(env.cells.lookup y.1).getD 0) :: cs else cs) acc):=by
  intro l
  induction l with
  | nil=>intro acc _;rfl
  | cons y l ih =>
   intro acc h;rw [List.forIn_cons,List.foldl_cons]
   by_cases hy:(y.2 == NameKind.free) = true
   ·obtain ⟨c,hc⟩:=h y List.mem_cons_self (by simpa using hy);rw [if_pos hy,if_pos hy];have e:cellOf env y.1 = pure c:=by unfold cellOf;rw [hc]
    rw [e,hc];exact ih _ fun z hz=>h z (List.mem_cons_of_mem _ hz)
   ·rw [if_neg hy,if_neg hy];exact ih _ fun z hz=>h z (List.mem_cons_of_mem _ hz)
 show ((forIn scope.names [] fun (x:Str × NameKind) (r:List (Str × Addr))=>if (x.2 == NameKind.free) = true then (do let a <- cellOf env x.1;pure (ForInStep.yield ((x.1,a) :: r))) else pure (ForInStep.yield r):Sem (List (Str × Addr))) >>= fun r=>pure r) = _
 rw [all scope.names [] hf]
 rfl
structure LcScope (scope:Scope) (x:Str) (fv:List Str) (osc:Scope):Prop where
 kind:scope.kind = .function
 nocell:∀ y ∈ scope.names,y.2 ≠ .cell
 names:∀ y ∈ scope.names,y.2 = .local->scope.names.lookup y.1 = some .local
 tgt:scope.names.lookup x = some .local
 free:∀ y ∈ scope.names,y.2 = .free->osc.names.lookup y.1 = some .cell \/ osc.names.lookup y.1 = some .free
 fvs:∀ y ∈ fv,scope.names.lookup y = some .free
 nd:(x :: fv).Nodup
theorem ko {scope : Scope} {env : Env} : ∀ {names : List (Str × NameKind)} {x : Str}, names.lookup x = some .free ->
    (names.map fun (n,k)=>if (k == NameKind.free && env.scope.kind == .function && env.kindOf n == some .cell) then (n,NameKind.cell) else (n,k)).lookup x = some .cell \/
    (names.map fun (n,k)=>if (k == NameKind.free && env.scope.kind == .function && env.kindOf n == some .cell) then (n,NameKind.cell) else (n,k)).lookup x = some .free
 | [],_,h=>by simp at h
 | (n,k) :: r,x,h=>by
  have ih:=@ko scope env r x;show List.lookup x ((if (k == NameKind.free && env.scope.kind == .function && env.kindOf n == some .cell) = true then (n,NameKind.cell) else (n,k)) :: _) = _ \/ List.lookup x ((if (k == NameKind.free && env.scope.kind == .function && env.kindOf n == some .cell) = true then (n,NameKind.cell) else (n,k)) :: _) = _
  cases hx:x == n with
  | true =>
   simp only [List.lookup_cons,hx] at h
   cases h
   by_cases hc:(NameKind.free == NameKind.free && env.scope.kind == .function && env.kindOf n == some .cell) = true
   ·rw [if_pos hc];left;simp [List.lookup_cons,hx]
   ·rw [if_neg hc];right;simp [List.lookup_cons,hx]
  | false =>
   simp only [List.lookup_cons,hx] at h
   by_cases hc:(k == NameKind.free && env.scope.kind == .function && env.kindOf n == some .cell) = true
   ·rw [if_pos hc];simp only [List.lookup_cons,hx];exact ih h
   ·rw [if_neg hc];simp only [List.lookup_cons,hx];exact ih h
theorem kq {env : Env} : ∀ {names : List (Str × NameKind)} {x : Str}, (∀ y ∈ names, y.2 ≠ NameKind.cell) ->
    ((names.map fun (n,k)=>if (k == NameKind.free && env.scope.kind == .function && env.kindOf n == some .cell) then (n,NameKind.cell) else (n,k)).lookup x = some .cell \/
    (names.map fun (n,k)=>if (k == NameKind.free && env.scope.kind == .function && env.kindOf n == some .cell) then (n,NameKind.cell) else (n,k)).lookup x = some .free)->names.lookup x = some .free
 | [],_,_,h=>by simp at h
 | (n,k) :: r,x,hn,h=>by
  have ih:=@kq env r x fun y hy=>hn y (List.mem_cons_of_mem _ hy)
  have hk:=hn (n,k) List.mem_cons_self;change List.lookup x ((if (k == NameKind.free && env.scope.kind == .function && env.kindOf n == some .cell) = true then (n,NameKind.cell) else (n,k)) :: _) = _ \/ List.lookup x ((if (k == NameKind.free && env.scope.kind == .function && env.kindOf n == some .cell) = true then (n,NameKind.cell) else (n,k)) :: _) = _ at h
  cases hx:x == n with
  | true =>
   by_cases hc:(k == NameKind.free && env.scope.kind == .function && env.kindOf n == some .cell) = true
   ·have hf:k = NameKind.free:=by
     rw [Bool.and_eq_true,Bool.and_eq_true] at hc;simpa using hc.1.1
    subst hf;simp [List.lookup_cons,hx]
   ·rw [if_neg hc] at h;simp only [List.lookup_cons,hx] at h ⊢
    rcases h with h | h
    ·cases h;exact absurd rfl hk
    ·exact h
  | false =>
   by_cases hc:(k == NameKind.free && env.scope.kind == .function && env.kindOf n == some .cell) = true
   ·rw [if_pos hc] at h;simp only [List.lookup_cons,hx] at h ⊢;exact ih h
   ·rw [if_neg hc] at h;simp only [List.lookup_cons,hx] at h ⊢;exact ih h
def Cx.comp (X:Cx) (scope:Scope) (N':List Str) (C:Addr) (s₀:Shared) (H₀:Hp) (ex:List Addr):Cx where
 prog:=X.prog
 w:=X.w
 K:=X.K
 mg:=X.mg
 base:=X.base
 A:=X.A
 N:=N'
 s₀:=s₀
 H₀:=H₀
 env:=compEnvC scope (ja scope X.env) C X.env
 outer:=X.stack
 stack:=X.stack
 ex:=ex
 fn:=fun _=>false
 calm:=X.calm
 pn:=[]
 xe:=fun _ _=>False
def Dv (X:Cx) (ifs:List Expr) (t:TT):Prop :=
 ∀ (pins:List (Addr × Obj)) (s:Shared) (σ:St) (H:Hp) (Q:Bool->Hp->Prop),Inv X pins σ H s->t σ H Q ->
  wpAny (model X.prog X.w) X.A (forIn ifs true fun c r=>if r = true then do let ok <- isTrue c X.env (eval c X.env);pure (ForInStep.yield ok) else pure (ForInStep.yield r)) (TP X pins σ Q) X.xe s
def tP:TT:=fun _ H Q=>Q true H
theorem BX:Dv X [] tP:=fun _ _ _ H _ I h=>wpAny_tests_nil ⟨H,I,h⟩
theorem BV {c:Expr} {t:TT} (h:PT X c t):Dv X [c] t:=fun pins s σ H Q I q=>wpAny_tests_one (h pins s σ H Q I q)
def Au (J:It) (ix:List Nat) (σ:St) (tt:TT) (te:TE) (Q:VK) (H1:Hp):Prop:=∃ W:Nat->Nat->List V->Hp->Prop,(∃ m,W 0 m [] H1)/\∀ i m ys H2,W i m ys H2 ->
 (J.stop i H2/\∀ D,H2 D = none->Q (.ref D) (upd H2 D (.lst ys))) \/
 (J.go i H2/\ys.length < sizeLine/\∀ x H3,J.yld i H2 x H3->tt (some x :: pick ix σ) H3 fun b H4=>if b = true then te (some x :: pick ix σ) H4 fun y H5=>∃ m',m' < m/\W (i + 1) m' (ys ++ [y]) H5 else ∃ m',m' < m/\W (i + 1) m' ys H4)
def KI (ix:List Nat) (wi:TI) (tt:TT) (te:TE):TE:=fun σ H Q=>wi σ H fun J H1=>Au J ix σ tt te Q H1
theorem eV {prog : Program} {R : Result -> Shared -> Prop} {elt target iter : Expr} {ifs : List Expr} {it acc : Value} (I : Nat -> Shared -> Prop)
    (turn:∀ n s,I n s->wpAny (model prog w) A (pyNext it) (fun r s₁=>match r with
     | none=>R (.ok .next) s₁
     | some v => wpAny (model prog w) A (letOwnedTupleGo target it v) (fun _ s₁ => wpAny (model prog w) A (assign target env v) (fun _ s₂ =>
         wpAny (model prog w) A (forIn ifs true fun c r=>if r = true then do let ok <- isTrue c env (eval c env);pure (ForInStep.yield ok) else pure (ForInStep.yield r)) (fun ok s₃ =>
          if ok = true then wpAny (model prog w) A (eval elt env) (fun x s₄ =>
           wpAny (model prog w) A (call (.builtin "list.append") [acc,x]) (fun _ s₅=>∃ m,m < n/\I m s₅) (fun _ _=>False) s₄) (fun _ _=>False) s₃
          else ∃ m,m < n/\I m s₃) (fun _ _=>False) s₂) (fun _ _=>False) s₁) (fun _ _=>False) s₁) (fun _ _=>False) s)
    (n:Nat) (h:I n s) :
    codeAny (model prog w) A (.compLoop (.ListComp elt [⟨target,iter,ifs,0⟩] scope pos) 0 it acc env) R s:=by
 refine codeAny_loop rfl I (fun n s hI=>?_) n h;show wpAny _ A ((compTurn (.ListComp elt [⟨target,iter,ifs,0⟩] scope pos) 0 it acc env).onRaise (fun x=>do noteFrame x env;theTreesLotGoes x)) _ _ s;refine wpAny_noted ?_;rw [compTurn_list];refine wpAny_bind (wpAny_standAt (wpAny_bind (wpAny_mono (turn n s hI) (fun r s₁ h₁=>?_) fun _ _ h'=>h'.elim)))
 cases r with
 | none=>exact wpAny_pure h₁
 | some v =>
  refine wpAny_bind (wpAny_mono h₁ (fun _ YK LN=>?_) fun _ _ h'=>h'.elim)
  refine wpAny_bind (wpAny_mono LN (fun _ s₂ h₂=>wpAny_bind (wpAny_mono h₂ (fun ok s₃ h₃=>?_) fun _ _ h'=>h'.elim)) fun _ _ h'=>h'.elim)
  cases ok with
  | false=>exact wpAny_pure ⟨rfl,h₃⟩
  | true =>
   exact wpAny_bind (wpAny_bind (wpAny_mono h₃ (fun x s₄ h₄=>wpAny_bind (wpAny_mono h₄ (fun _ s₅ h₅=>wpAny_pure (wpAny_pure ⟨rfl,h₅⟩)) fun _ _ h'=>h'.elim)) fun _ _ h'=>h'.elim))
section
variable {fv:List Str}
theorem LcScope.cells (S:LcScope scope x fv X.env.scope) (ok:X.Ok):∀ y ∈ scope.names,y.2 = .free->∃ c,X.env.cells.lookup y.1 = some c:=fun y hy hf=>by
 rcases S.free y hy hf with e | e
 ·exact ok.has y.1 (.inl e)
 ·exact ok.has y.1 (.inr e)
theorem FE (S : LcScope scope x fv X.env.scope) (I : Inv X pins σ H s) (hC : s.heap.objs.size <= C) (f2 : ∀ b ∈ fp, FpOk X pins H b) (fl : ∀ b ∈ fp, b < s.heap.objs.size) :
    (X.comp scope (x :: fv) C s H fp).Ok:=by
 have qM:=S.cells I.ok;refine ⟨I.ok.mod,S.kind,I.ok.glob,I.ok.blt,hC,fun y z c h1 h2=>I.ok.inj y z c (dq qM h1) (dq qM h2),fun y hy=>?_,fun y c L9 _=>absurd (show false = true from L9) (by decide),I.ok.hd,I.ok.frames,.inl rfl,
  fun b hb=>⟨Nat.ne_of_lt (Nat.lt_of_lt_of_le (fl b hb) hC),fun y c h1=>(f2 b hb).2.2.2.2.1 y c (dq qM h1)⟩,I.bs,Nat.le_trans I.ok.bsz I.sz,fun b o e hb=>?_,fun b hb hs=>?_,I.stack,I.stkFree⟩
 ·exact qY (kq S.nocell hy)
 ·rcases (f2 b hb).2.2.2.1 with z | z
  ·exact I.ok.noex b o e z
  ·exact absurd (Nat.lt_of_lt_of_le (Heap.lt_size (I.ok.bs b o e).1) z) (Nat.lt_irrefl _)
 ·rcases List.mem_cons.mp (I.stkSub b hs) with z | z
  ·exact (f2 b hb).2.1 z
  ·exact (f2 b hb).2.2.1 z
end
section
variable {fv:List Str}
def lobj (its:List Value) (n:Nat):Obj:={ cls:=.type "list",data:=.seq its.toArray n }
theorem oS {D : Addr} {h₁ : Heap} {m : Str -> Option Value} {tk : Nat} (S : LcScope scope x fv X.env.scope) (DH : ix.map (fun i => X.N[i]?) = fv.map some) (I : Inv X pins σ H s)
    (hD:s.heap.objs.size <= D) (GV:D ≠ C) (hC:s.heap.objs.size <= C) (f2:∀ b ∈ fp,FpOk X pins H b) (fl:∀ b ∈ fp,b < s.heap.objs.size)
    (N0:h₁.Ns C m) (old:∀ b o,s.heap.get? b = some o->h₁.get? b = some o) (CU:h₁.get? D = some (lobj [] n)) :
    Inv (X.comp scope (x :: fv) C s H fp) [(D,lobj [] n)] (none :: pick ix σ) H { s with heap:=h₁,toks:=tk }:=by
 have qM:=S.cells I.ok;refine ⟨FE S I hC f2 fl,rfl,I.bare,Un.kept old,⟨m,N0,fun i y v h1 h2 h3=>?_⟩,fun y c h1=>?_,I.hok.fresh hC,fun y c h1=>I.freeC y c (dq qM h1),fun p hp=>?_,I.hok.kept old,?_⟩
 ·cases i with
  | zero=>simp at h2
  | succ i =>
   have jC:fv[i]? = some y:=by simpa [Cx.comp] using h1
   have h2':(pick ix σ)[i]? = some (some v):=by simpa using h2
   unfold pick at h2';rw [List.getElem?_map] at h2'
   cases e:ix[i]? with
   | none=>rw [e] at h2';cases h2'
   | some j =>
    rw [e] at h2';have e2:(σ[j]?).join = some v:=by simpa using h2'
    have e3:σ[j]? = some (some v):=by
     cases q:σ[j]? with
     | none=>rw [q] at e2;cases e2
     | some o=>rw [q] at e2;rw [show o = some v from e2]
    have e4:X.N[j]? = some y:=by
     have:=congrArg (fun l=>l[i]?) DH
     simp only [List.getElem?_map,e,jC,Option.map_some] at this;exact Option.some.inj this
    have Uc:=S.fvs y (List.mem_of_getElem? jC);have zQ:=S.free (y,.free) (PySem.mem_of_lookup Uc) rfl;obtain ⟨m0,Zi,Fq⟩:=I.loc;obtain ⟨u,r,lk⟩:=Fq j y v e4 e3 (zQ.elim (fun z=>.inr (.inl z)) fun z=>.inr (.inr z))
    refine ⟨u,r,.inr ⟨?_,?_⟩⟩
    ·exact ko (scope:=scope) (env:=X.env) Uc
    ·rcases lk with ⟨k,_⟩ | ⟨_,c,hc,qN⟩
     ·rcases zQ with z | z
      ·have k':X.env.scope.names.lookup y = some .local:=k;rw [show X.env.scope.names.lookup y = some .cell from z] at k';cases k'
      ·have k':X.env.scope.names.lookup y = some .local:=k;rw [show X.env.scope.names.lookup y = some .free from z] at k';cases k'
     ·obtain ⟨c',zV⟩:=qY (env:=X.env) Uc;have e5:=dq qM zV;rw [hc] at e5
      cases e5
      obtain ⟨o,ho,hd⟩:=qN;exact ⟨c,zV,o,old c o ho,hd⟩
 ·obtain ⟨v,o,ho,hd⟩:=I.cell y c (dq qM h1);exact ⟨v,o,old c o ho,hd⟩
 ·have vi:p = (D,lobj [] n):=by simpa [Cx.comp] using hp
  subst vi;refine ⟨CU,I.hok.fresh hD,GV,fun hs=>?_,fun v z=>?_⟩
  ·rcases List.mem_cons.mp (I.stkSub _ hs) with z | z
   ·exact absurd (show D = X.env.locals from z) (Nat.ne_of_gt (Nat.lt_of_lt_of_le I.lt hD))
   ·exact I.nofs hD z
  ·have z':Data.seq _ _ = Data.cell v:=z
   cases z'
 ·show (none :: pick ix σ).length = (x :: fv).length;have:=congrArg List.length DH;simp only [List.length_map] at this;simp [pick,this]
theorem vD {σ' : St} {s1 : Shared} {D : Addr} {its : List Value} {ys : List V} (I : Inv X pins σ H s)
    (hD:s.heap.objs.size <= D) (hC:s.heap.objs.size <= C) (f2:∀ b ∈ fp,FpOk X pins H b)
    (I1:Inv (X.comp scope (x :: fv) C s H fp) [(D,lobj its n)] σ' H' s1) (hs:Heap.SameBut C s1.heap h') (rv:Vals ys its) (hz:ys.length <= sizeLine) :
    Inv X pins σ (upd H' D (.lst ys)) { s1 with heap:=h' }/\H' D = none:=by
 obtain ⟨eD,nD,IZ,NQ,_⟩:=I1.pin (D,lobj its n) (by simp [Cx.comp]);have SH:D ≠ C:=IZ;have vq:H' C = none:=I1.free;have eD':h'.get? D = some (lobj its n):=(hs.2 D SH).trans eD;have lt:∀ b o,s.heap.get? b = some o->b ≠ C/\b ≠ D:=fun b o e=>⟨Nat.ne_of_lt (Nat.lt_of_lt_of_le (Heap.lt_size e) hC),Nat.ne_of_lt (Nat.lt_of_lt_of_le (Heap.lt_size e) hD)⟩
 have U:Un (tE X.stack) fp H H' s.heap s1.heap:=I1.base;have Cs:∀ b u,H' b = some u->b ≠ D:=fun b u e=>df e nD
 have U':Un (tE X.stack) fp H (upd H' D (.lst ys)) s.heap h':=by
  refine ⟨fun b o e n hb he=>?_,fun b o e n hb he=>?_,fun b o e n he=>?_,fun b o e he=>?_,fun b xs e=>?_,fun b o u e=>?_,fun b ps e=>?_⟩
  ·exact (hs.2 b (lt b o e).1).trans (U.keep b o e n hb he)
  ·obtain ⟨sl,q⟩:=U.slot b o e n hb he;exact ⟨sl,(hs.2 b (lt b o e).1).trans q⟩
  ·rw [aD (lt b o e).2];exact U.free b o e n he
  ·obtain ⟨o',q⟩:=U.there b o e he;exact ⟨o',(hs.2 b (lt b o e).1).trans q⟩
  ·have:=U.tups b xs e;rw [aD (Cs b _ this)];exact this
  ·have:=U.frzs b o u e;rw [aD (Cs b _ this)];exact this
  ·obtain ⟨more,this⟩:=U.tbls b ps e;exact ⟨more,by rw [aD (Cs b _ this)];exact this⟩
 have hok:HOk X.prog X.w (upd H' D (.lst ys)) h':=fun b u e=>by
  by_cases hb:b = D
  ·subst hb;rw [aE] at e
   cases e
   exact ⟨hz,its,n,rv,eD'⟩
  ·rw [aD hb] at e;refine (I1.hok b u e).stay (fun c v hc q=>(hs.2 c ?_).trans q) (fun c q=>by rw [aD (Cs c _ q)];exact q) fun c xs q=>by rw [aD (Cs c _ q)];exact q
   rintro rfl
   rcases hc with hc | hc
   ·rw [<- hc,vq] at e;cases e
   ·rw [vq] at hc;cases hc
 exact ⟨I.call' (s':={ s1 with heap:=h' }) (ch:=fp) I1.os U' hok I1.bare fun b hb=>⟨(f2 b hb).2.2.2.1,(f2 b hb).2.1,(f2 b hb).2.2.2.2.1,(f2 b hb).2.2.2.2.2⟩,nD⟩
theorem Lg {elt iter : Expr} {ifs : List Expr} {px : Pos} {wi : TI} {osc : Scope} (hc : X.calm = true) (S₀ : LcScope scope x fv osc) (DH : ix.map (fun i => X.N[i]?) = fv.map some) (hi : PI X (.Name x px) iter wi)
    (ht:∀ (C:Addr) (s₀:Shared) (H₀:Hp) (ex:List Addr),Dv (X.comp scope (x :: fv) C s₀ H₀ ex) ifs tt)
    (he:∀ (C:Addr) (s₀:Shared) (H₀:Hp) (ex:List Addr),PE (X.comp scope (x :: fv) C s₀ H₀ ex) elt te)
    (xB:X.env.scope = osc:=by rfl) (hs:∀ x,foldedSetIterable iter X.env x = pure x:=by intro _;rfl):PE X (.ListComp elt [⟨.Name x px,iter,ifs,0⟩] scope pos) (KI ix wi tt te):=by
 have S:LcScope scope x fv X.env.scope:=xB ▸ S₀;intro pins s σ H Q I h;rw [eval_ListComp];refine wpAny_comprehension_free (use:=none) (cl:=ja scope X.env) rfl hs (jL (S.cells I.ok)) S.kind S.names ?_;refine cz (hi pins s σ H _ I h) fun v s1 h1=>cz h1 fun NU s2 h2=>?_
 obtain ⟨it,fp,tn,J,H2,e,I2,T,DY,f2,W,⟨m0,w0⟩,turn⟩:=h2;subst e;have fl:∀ b ∈ fp,b < s2.heap.objs.size:=fun b hb=>by obtain ⟨o,e,_⟩:=T.obj _ _ DY b hb;exact Heap.lt_size e
 refine wpAny_newObj_type (wpAny_newFunctionEnv S.nocell (by intro y hy;simp at hy) (fun h₁ iA fX=>?_) S.kind);dsimp only at iA fX ⊢;generalize JH:s2.heap.push { cls:=.type "list",dict:=none,data:=.seq ([]:List Value).toArray } = yw at iA fX ⊢;have hCe:yw.objs.size = s2.heap.objs.size + 1:=by rw [<- JH,Heap.size_push]
 generalize hCC:yw.objs.size = C at iA fX ⊢;generalize Fv:s2.heap.objs.size = D at *;have GV:D ≠ C:=by omega
 have hD:s2.heap.objs.size <= D:=by omega
 have hC:s2.heap.objs.size <= C:=by omega
 have Lx:∀ b:Nat,b < s2.heap.objs.size->b ≠ C:=fun b hb=>by omega
 have Lw:∀ b:Nat,b < s2.heap.objs.size->b ≠ D:=fun b hb=>by omega
 have old:∀ b o,s2.heap.get? b = some o->h₁.get? b = some o:=fun b o e=>fX.extBut b o (Lx b (Heap.lt_size e)) (Heap.get?_push_of_some _ (JH ▸ Heap.get?_push_of_some _ e))
 have CU:h₁.get? D = some (lobj [] 0):=fX.extBut _ _ GV (Heap.get?_push_of_some _ (JH ▸ Fv ▸ Heap.get?_push_size _ rfl));have FX:tn 0 h₁:=T.keep _ _ _ DY fun b _ o e=>old b o e
 have I3:Inv (X.comp scope (x :: fv) C s2 H2 fp) [(D,lobj [] 0)] (none :: pick ix σ) H2 { s2 with heap:=h₁,toks:=s2.toks + ([]:List (Str × Value)).length }:=oS S DH I2 hD GV hC f2 (fun b hb=>Fv.symm ▸ fl b hb) iA old CU
 have JI:∀ b ∈ fp,b ≠ D:=fun b hb=>Lw b (Fv.symm ▸ fl b hb)
 have qM:=S.cells I2.ok;have nB:∀ {H':Hp} {its:List Value} {n:Nat},(∀ b ∈ fp,H' b = none)->∀ b ∈ fp,FpOk (X.comp scope (x :: fv) C s2 H2 fp) [(D,lobj its n)] H' b:=fun {H' its n} hn b hb=>by
  obtain ⟨_,g1,g2,g3,g4,g5⟩:=f2 b hb;refine ⟨hn b hb,(Lx b (Fv.symm ▸ fl b hb)),fun z=>?_,.inl hb,fun y c h1=>g4 y c (dq qM h1),fun p hp=>?_⟩
  ·rcases List.mem_cons.mp (I2.stkSub b z) with z | z
   ·exact g1 z
   ·exact g2 z
  ·have vi:p = (D,lobj its n):=by simpa [Cx.comp] using hp
   rw [vi];exact (JI b hb).symm
 have loop : ∀ s3 : Shared, s3 = { s2 with heap := h₁, toks := s2.toks + ([] : List (Str × Value)).length } ->
     codeAny (model X.prog X.w) X.A (.compLoop (.ListComp elt [⟨.Name x px,iter,ifs,0⟩] scope pos) 0 (.ref it) (.ref D) (compEnvC scope (ja scope X.env) C X.env))
      (compPost (model X.prog X.w) X.A X.xe none (EP X pins σ Q) (.ref D) C) s3:=by
  rintro s3 rfl;refine eV (fun n s'=>∃ i ys its k H' o',Inv (X.comp scope (x :: fv) C s2 H2 fp) [(D,lobj its k)] (o' :: pick ix σ) H' s'/\tn i s'.heap/\(∀ b ∈ fp,H' b = none)/\Vals ys its/\ys.length <= sizeLine/\W i n ys H') ?_ m0
   ⟨0,[],[],0,H2,none,I3,FX,fun b hb=>(f2 b hb).1,.nil,Nat.zero_le _,w0⟩
  rintro n s4 ⟨i,ys,its,k,H4,o4,I4,KL,Mq,Ea,LO,w4⟩
  rcases turn i n ys H4 w4 with ⟨stop,q⟩ | ⟨go,ed,step⟩
  ·refine cz (T.done (X.comp scope (x :: fv) C s2 H2 fp) rfl rfl rfl hc i _ s4 _ H4 _ I4 (nB Mq) KL stop) fun r s5 ⟨hr,I5⟩=>?_
   subst hr;obtain ⟨m5,LW,_⟩:=id I5.loc;refine ⟨m5,LW,fun h6 hs6=>?_⟩;obtain ⟨I6,nD⟩:=vD I2 hD hC f2 I5 hs6 Ea LO;exact ⟨.ref D,_,I6,rfl,q D nD⟩
  ·refine cz (T.item (X.comp scope (x :: fv) C s2 H2 fp) rfl rfl rfl hc i _ s4 _ H4 _ I4 (nB Mq) KL go) fun r s5 ⟨u,hr,h5⟩=>?_
   subst hr;refine cz h5 fun _ s6 ⟨xv,H6,I6,r6,y6,AX,U0⟩=>?_
   have YG:=I6.pinned (nB U0) (T.obj _ _ AX);refine wpAny_assign_Name (iK (i:=0) YG S.nd rfl (.inl (lookup_relabel_local S.tgt)) r6 (fun s7 I7=>?_) (.inr (lookup_relabel_local S.tgt)))
   refine cz (ht C s2 H2 fp _ s7 _ H6 _ I7 (step xv H6 y6)) fun b s8 ⟨H8,I8,q8⟩=>?_
   have kB:∀ {H9:Hp} {σ9:St} {s9:Shared} (I9:Inv (X.comp scope (x :: fv) C s2 H2 fp) ([(D,lobj its k)] ++ fe fp s6.heap) σ9 H9 s9),(∀ b ∈ fp,∀ o,s6.heap.get? b = some o->s9.heap.get? b = some o/\H9 b = none):=fun {H9 σ9 s9} I9 b hb o e =>
    ⟨(I9.pin (b,o) (List.mem_append_right _ (List.mem_append_right _ (eE hb e)))).1,(I9.pin (b,o) (List.mem_append_right _ (List.mem_append_right _ (eE hb e)))).2.1⟩
   cases b with
   | false =>
    rw [if_neg Bool.false_ne_true] at q8 ⊢;obtain ⟨m',hm,w8⟩:=q8;refine ⟨m',hm,i + 1,ys,its,k,H8,some xv,I8.unpinned,T.keep _ _ _ AX fun b hb o e=>(kB I8 b hb o e).1,fun b hb=>?_,Ea,LO,w8⟩;obtain ⟨o,e,_⟩:=T.obj _ _ AX b hb;exact (kB I8 b hb o e).2
   | true =>
    rw [if_pos rfl] at q8 ⊢;refine cz (he C s2 H2 fp _ s8 _ H8 _ I8 q8) fun y s9 ⟨yv,H9,I9,r9,q9⟩=>?_
    obtain ⟨m',hm,w9⟩:=q9;obtain ⟨eD,nD,IZ,NQ,_⟩:=I9.pin (D,lobj its k) (by simp [Cx.comp]);have hlen:=Ea.length;refine wpAny_list_append_plain (items:=its.toArray) ⟨k,eD⟩ (fun Ml Jx CL=>?_) (by rw [List.size_toArray];omega)
    obtain ⟨k',VW⟩:=Jx;have J9:Inv (X.comp scope (x :: fv) C s2 H2 fp) (fe fp s6.heap) (some xv :: pick ix σ) H9 s9:=I9.pins_of fun p hp=>I9.pin p (List.mem_append_right _ (List.mem_append_right _ hp))
    have YF:Inv (X.comp scope (x :: fv) C s2 H2 fp) (fe fp s6.heap) (some xv :: pick ix σ) H9 { s9 with heap:=Ml } :=
     J9.turned (t':=s9.toks) (it:=D) (fun b o hb e=>(CL.2 b hb).trans e) nD IZ (.inr hD) (fun y c h1 z=>by
      obtain ⟨_,o,ho,_⟩:=I2.cell y c (dq qM h1);exact Lw c (Heap.lt_size ho) z) (fun p hp z=>by
      obtain ⟨hb,_⟩:=lF (show p ∈ fe fp s6.heap by simpa [Cx.comp] using hp);exact JI p.1 hb z)
    have JK:Ml.get? D = some (lobj (its ++ [y]) k'):=by
     rw [VW];simp [lobj]
    refine ⟨m',hm,i + 1,ys ++ [yv],its ++ [y],k',H9,some xv,YF.pins_of fun p hp=>?_,T.keep _ _ _ AX fun b hb o e=>(CL.2 b (JI b hb)).trans (kB I9 b hb o e).1,fun b hb=>?_,Ea.append (.cons r9 .nil),?_,w9⟩
    ·have vi:p = (D,lobj (its ++ [y]) k'):=by simpa using hp
     subst vi;exact ⟨JK,nD,IZ,NQ,fun v z=>by have z':Data.seq _ _ = Data.cell v:=z;cases z'⟩
    ·obtain ⟨o,e,_⟩:=T.obj _ _ AX b hb;exact (kB I9 b hb o e).2
    ·rw [List.length_append,List.length_singleton];omega
 exact codeAny_compStart_list (loop _ rfl) (T.self _ 0 _ _ _ FX (loop _ rfl))
end
theorem E9 {J : It} {Q : VK} (item f : Nat -> V) (keep : Nat -> Bool) (hn : n <= sizeLine) (hgo : ∀ i, i < n -> J.go i H) (Ua : ∀ i x H', i < n -> J.yld i H x H' -> x = item i /\ H' = H) (LQ : J.stop n H)
    (hT:∀ i,i < n->∀ R:Bool->Hp->Prop,R (keep i) H->tt (some (item i) :: pick ix σ) H R) (hE:∀ i,i < n->keep i = true->∀ R:VK,R (f i) H->te (some (item i) :: pick ix σ) H R)
    (hQ:∀ D,H D = none->Q (.ref D) (upd H D (.lst (((List.range n).filter keep).map f)))) :
    Au J ix σ tt te Q H:=by
 refine ⟨fun i m ys H2=>m = n - i/\i <= n/\ys = ((List.range i).filter keep).map f/\H2 = H,⟨n,by simp,Nat.zero_le _,by simp,rfl⟩,?_⟩
 rintro i m ys H2 ⟨rfl,hi,rfl,rfl⟩
 by_cases ed:i < n
 ·refine .inr ⟨hgo i ed,?_,?_⟩
  ·rw [List.length_map];have h1:((List.range i).filter keep).length <= (List.range i).length:=List.length_filter_le _ _;rw [List.length_range] at h1;omega
  ·intro x H3 y;obtain ⟨rfl,rfl⟩:=Ua i x H3 ed y;refine hT i ed _ ?_
   cases hk:keep i with
   | true =>
    rw [if_pos rfl];refine hE i ed hk _ ⟨n - (i + 1),by omega,rfl,ed,?_,rfl⟩;rw [List.range_succ,List.filter_append,List.map_append];simp [hk]
   | false =>
    rw [if_neg Bool.false_ne_true];refine ⟨n - (i + 1),by omega,rfl,ed,?_,rfl⟩;rw [List.range_succ,List.filter_append,List.map_append];simp [hk]
 ·have e:i = n:=by omega
  subst e;exact .inl ⟨LQ,hQ⟩
theorem wU {α β:Type} (xs:List α) (d:α) (p:α->Bool) (f:α->β):((List.range xs.length).filter fun i=>p (xs.getD i d)).map (fun i=>f (xs.getD i d)) = (xs.filter p).map f:=by
 have e:(List.range xs.length).map (fun i=>xs.getD i d) = xs:=by
  apply List.ext_getElem
  ·simp
  ·intro i h1 h2;simp [List.getD_eq_getElem?_getD,List.getElem?_eq_getElem h2]
 have e2:((List.range xs.length).filter fun i=>p (xs.getD i d)).map (fun i=>xs.getD i d) = xs.filter p:=by
  have:=List.filter_map (f:=fun i=>xs.getD i d) (p:=p) (l:=List.range xs.length)
  rw [e] at this;exact this.symm
 rw [<- e2,List.map_map]
 rfl
section
variable {Q:VK}
theorem Je {z : Str} (f : Nat -> V) (keep : Nat -> Bool) (hz : z.cps.size <= sizeLine)
    (hT:∀ c ∈ z.cps.toList,∀ R:Bool->Hp->Prop,R (keep c) H->tt (some (.str ⟨#[c]⟩) :: pick ix σ) H R) (hE:∀ c ∈ z.cps.toList,keep c = true->∀ R:VK,R (f c) H->te (some (.str ⟨#[c]⟩) :: pick ix σ) H R)
    (hQ:∀ D,H D = none->Q (.ref D) (upd H D (.lst ((z.cps.toList.filter keep).map f)))) :
    Au (J8 z) ix σ tt te Q H:=by
 have vk:∀ i,i < z.cps.size->z.cps.toList.getD i 0 ∈ z.cps.toList:=fun i hi=>by
  have h2:i < z.cps.toList.length:=by simpa using hi
  rw [List.getD_eq_getElem?_getD,List.getElem?_eq_getElem h2];exact List.getElem_mem h2
 refine E9 (J:=J8 z) (n:=z.cps.size) (fun i=>.str ⟨#[z.cps.toList.getD i 0]⟩) (fun i=>f (z.cps.toList.getD i 0)) (fun i=>keep (z.cps.toList.getD i 0)) hz (fun i hi=>hi) (fun i x H' hi y=>?_) rfl (fun i hi R h=>hT _ (vk i hi) R h) (fun i hi hk R h=>hE _ (vk i hi) hk R h) ?_
 ·obtain ⟨rfl,c,hc,rfl⟩:=y;refine ⟨?_,rfl⟩;have zV:z.cps.toList[i]? = some c:=by simpa using hc
  rw [List.getD_eq_getElem?_getD,zV]
  rfl
 ·have e:=wU z.cps.toList 0 keep f;have e2:z.cps.toList.length = z.cps.size:=by simp
  rw [e2] at e;rw [e];exact hQ
end
section
variable {a b:Expr} {ta tb:TE}
theorem Ce:OpR X (compareOp .Is) (fun x y H Q=>∃ i j,x = .bl i/\y = .bl j/\Q (.bl (i == j)) H):=by
 intro pins s σ H x y v u Q I rx ry h;obtain ⟨i,j,rfl,rfl,q⟩:=h
 cases rx
 cases ry
 exact is_bool ⟨.bl (i == j),H,I,rfl,q⟩
theorem uC:OpR X (compareOp .IsNot) (fun x y H Q=>∃ i j,x = .bl i/\y = .bl j/\Q (.bl (i != j)) H):=by
 intro pins s σ H x y v u Q I rx ry h;obtain ⟨i,j,rfl,rfl,q⟩:=h
 cases rx
 cases ry
 exact isnot_bool ⟨.bl (i != j),H,I,rfl,q⟩
theorem zr:OpR X (compareOp .LtE) (fun x y H Q=>∃ i j,x = .str i/\y = .str j/\Q (.bl (!decide (j.cps.toList < i.cps.toList))) H):=by
 intro pins s σ H x y v u Q I rx ry h;obtain ⟨i,j,rfl,rfl,q⟩:=h;obtain ⟨t,rfl⟩:=rx;obtain ⟨t',rfl⟩:=ry;exact PySem.P.le_str (oH I q rfl)
theorem wY:OpR X (binaryOp .Mult) (fun x y H Q=>∃ z n,x = .str z/\y = .int n/\MulOk z n/\Q (.str (Txt.mul z n)) H):=by
 intro pins s σ H x y v u Q I rx ry h;obtain ⟨z,n,rfl,rfl,hm,q⟩:=h;obtain ⟨t,rfl⟩:=rx;obtain ⟨t',rfl⟩:=ry;exact SB.mul hm fun t' k=>⟨.str (Txt.mul z n),H,I.tok _,⟨_,rfl⟩,q⟩
def K0:V->Option Int->Option Int->Hp->VK->Prop:=fun x lo hi H Q=>∃ z,x = .str z/\z.length <= sizeLine/\Q (.str (Txt.slice z lo hi)) H
theorem uz {v:Value} {o:Option Int} (p:IsPart v o):∃ l:Option (Int × Tok),v = partValue l/\l.map (·.1) = o:=by
 cases p with
 | none=>exact ⟨none,rfl,rfl⟩
 | int i t=>exact ⟨some (i,t),rfl,rfl⟩
theorem Hw:SlR X K0:=by
 intro pins s σ H x v vl vu lo hi sl Q I rx hs pl pu h;obtain ⟨z,rfl,hz,q⟩:=h;obtain ⟨t,rfl⟩:=rx;obtain ⟨l,rfl,el⟩:=uz pl;obtain ⟨u,rfl,eu⟩:=uz pu;subst el eu;refine ⟨"str",_,F.slot_str_getitem.lookup,typeIs_str _ _ _,wpAny_getItem_str_slice (l:=l) (u:=u) (st:=none) hs rfl ?_⟩;exact post_val_or_str ⟨Nat.le_trans (Txt.slice_le z _ _) hz,fun t' k=>⟨.str (Txt.slice z (l.map (·.1)) (u.map (·.1))),H,I.tok _,⟨_,rfl⟩,q⟩⟩
theorem vL:∀ {bs:List Bool} {us:List Value},Vals (bs.map V.bl) us->LSm.BoolsAre us bs
 | [],_,r=>by rw [List.map_nil] at r;cases r;exact .nil
 | b :: bs,_,r=>by
  rw [List.map_cons] at r
  cases r with
  | cons r1 r2 =>
   cases (show _ = Value.bool b from r1)
   exact .cons b (vL r2)
theorem Di (hc:X.calm = true):cN X (.builtin "all") (fun xs H Q=>∃ (p:Addr) (bs:List Bool),xs = [.ref p]/\SqL X.K H p (bs.map V.bl)/\Q (.bl (bs.all id)) H):=by
 intro pins s σ H xs us Q I r h;obtain ⟨p,bs,rfl,hp,q⟩:=h;obtain ⟨u,rfl,ru⟩:=vals1 r
 cases ru
 obtain ⟨its,rv,pl,hz⟩:=I.list hp;have hb:=vL rv;have hl:=pl.isList;have ed:p < s.heap.objs.size:=by obtain ⟨_,e,_⟩:=hl;exact Heap.lt_size e
 have hh:X.A.handled = none:=I.ok.hd hc;refine call_all_walk (wpAny_pyIter_list hl ?_);refine ⟨s.heap.objs.size,[s.heap.objs.size,p],[s.heap.objs.size],its.toArray.size,_,_,fun i=>(bs[i]?).getD true,rfl,Walks.list (A:=X.A.in1) hh _ p (Nat.ne_of_lt ed) its.toArray,
  ⟨⟨_,Heap.get?_push_size _ rfl,rfl,rfl⟩,hl.push _⟩,fun i v s' Q' E' hP hQ=>?_,fun h' tk hk=>?_⟩
 ·obtain ⟨b,e,rfl⟩:=hb.get i v (by simpa using hP);simp only [e,Option.getD_some] at hQ;exact wpAny_truthy_bool hQ
 ·have e:((List.range its.toArray.size).all fun i=>(bs[i]?).getD true) = bs.all id:=by
   rw [List.size_toArray,hb.length];exact LSm.range_all bs
  rw [e];exact ⟨.bl (bs.all id),H,I.kept (LSm.kept_iter hk),rfl,q⟩
theorem vJ:cN X (.builtin "isinstance") (fun xs H Q=>∃ x T t b,xs = [x,.ty T]/\TyOf X.K H x t/\W.kitOne X.K t (.type T) = some b/\Q (.bl b) H):=by
 intro pins s σ H xs us Q I r h;obtain ⟨x,T,t,b,rfl,ty,hk,q⟩:=h;obtain ⟨u,w',rfl,ru,Bg⟩:=vals2 r
 cases (show w' = Value.type T from Bg)
 exact zO I ru ty hk fun tk=>⟨.bl b,H,I.tok tk,rfl,q⟩
end
structure Fn (K:W.Frag) (mg:Str->Option Value) (x:Str) (st:Stmt) (ps:List Str) (f:Addr) (fd:FuncData):Prop where
 fu:Fun K x x st f fd
 mgx:mg x = some (.ref f)
 bd:Binds K fd ps []
def HasFn (K:W.Frag) (mg:Str->Option Value) (x:Str) (st:Stmt) (ps:List Str):Prop:=∃ f fd,Fn K mg x st ps f fd
section
variable {st:Stmt} {ps:List Str} {f:Addr} {fd:FuncData} {k:Nat} {sp:Sp} {e:Expr} {es:List Expr} {t:TA} {p:Pos}
theorem Lj (N : Fn X.K X.mg x st ps f fd) (G : FnOk X.prog X.w X.K X.mg X.base cy k f fd ps sp) (hr : Room k X.A) (ha : PA X (e :: es) t) (hg : Gl X x := by rfl)
    (sR:(x == ("__debug__":Str)) = false:=by decide) (he:starEach (e :: es) X.env = (false,eval e X.env) :: starEach es X.env:=by rfl) (qL:(backTo pos (starEach es X.env)).any (·.1) = false:=by rfl) :
    PE X (.Call (.Name x p) (e :: es) [] pos) (nA sp [] E0 t):=EO G hr hg N.mgx N.fu.kp N.bd .nil Ll ha sR he qL
theorem Li (h:∃ u,X.mg x = some u/\RelV v u) (hg:Gl X x:=by rfl) (hd:(x == ("__debug__":Str)) = false:=by decide):PE X (.Name x pos) (tC v):=by
 obtain ⟨u,h1,h2⟩:=h;exact EL hg h1 h2 hd
theorem Ld {T:String} (hm:X.mg x = none) (hv:bootBuiltins x = some (.type T)) (hg:Gl X x:=by rfl) (hn:x ≠ "__name__":=by decide) (hd:(x == ("__debug__":Str)) = false:=by decide):PE X (.Name x pos) (tC (.ty T)) :=
 ER hg hm hv rfl hn hd
end
def eC (c:Nat):Bool:=decide (32 <= c/\c <= 126)
def iu (z:Str) (lo hi:Int):Bool:=decide (lo <= z.length/\(z.length:Int) <= hi) && z.cps.toList.all eC
theorem w6 (c d:Nat):decide (([c]:List Nat) < [d]) = decide (c < d):=by
 apply decide_eq_decide.mpr
 constructor
 ·intro h
  cases h with
  | rel h=>exact h
  | cons h=>cases h
 ·intro h;exact .rel h
def NotStr (K:W.Frag) (H:Hp) (v:V):Prop:=∃ t,TyOf K H v t/\W.kitOne K t (.type "str") = some false
section
variable {κ:Type} [DecidableEq κ]
def jO (aF:List (κ × V)) (k:κ):Option V:=(aF.find? fun kv=>decide (kv.1 = k)).map (·.2)
def putK (aF:List (κ × V)) (k:κ) (v:V):List (κ × V) :=
 if (aF.any fun kv=>decide (kv.1 = k)) = true then aF.map (fun kv=>if kv.1 = k then (kv.1,v) else kv) else aF ++ [(k,v)]
def G3 (aF:List (κ × V)) (k:κ):List (κ × V):=aF.filter fun kv=>decide (kv.1 ≠ k)
theorem nq {p:κ × V} {r:List (κ × V)} {k:κ} (e:p.1 = k):jO (p :: r) k = some p.2:=by simp [jO,List.find?_cons,e]
theorem nr {p:κ × V} {r:List (κ × V)} {k:κ} (e:¬ p.1 = k):jO (p :: r) k = jO r k:=by simp [jO,List.find?_cons,e]
theorem tJ (k:κ):∀ aF:List (κ × V),(aF.any fun kv=>decide (kv.1 = k)) = (jO aF k).isSome
 | []=>rfl
 | p :: r=>by
  rw [List.any_cons]
  by_cases e:p.1 = k
  ·simp only [nq e,decide_eq_true e,Bool.true_or,Option.isSome_some]
  ·rw [nr e,decide_eq_false e,Bool.false_or];exact tJ k r
theorem iV (aF:List (κ × V)) (k:κ) (v:V):(putK aF k v).length <= aF.length + 1:=by
 unfold putK
 split
 ·rw [List.length_map];omega
 ·rw [List.length_append,List.length_cons,List.length_nil];omega
theorem RelO.isSome_eq {u:Option Value} (r:RelO o u):o.isSome = u.isSome:=by
 cases o with
 | none=>cases u with
  | none=>rfl
  | some _=>exact (show False from r).elim
 | some _=>cases u with
  | none=>exact (show False from r).elim
  | some _=>rfl
theorem RelO.getD {u:Option Value} {d:V} {d':Value} (r:RelO o u) (rd:RelV d d'):RelV (o.getD d) (u.getD d'):=by
 cases o with
 | none=>cases u with
  | none=>exact rd
  | some _=>exact (show False from r).elim
 | some _=>cases u with
  | none=>exact (show False from r).elim
  | some _=>exact r
theorem KV.val {aF:List (κ × V)} {vs:List (κ × Value)} (r:KV aF vs) (k:κ):RelO (jO aF k) (valueAt vs k):=by
 unfold KV at r
 induction r with
 | nil=>exact True.intro
 | @cons p q ps qs h t ih =>
  obtain ⟨h1,h2⟩:=h
  by_cases e:p.1 = k
  ·have e':q.1 = k:=h1.symm.trans e;have b:valueAt (q :: qs) k = some q.2:=by simp [valueAt,List.find?_cons,e']
   rw [nq e,b];exact h2
  ·have e':¬ q.1 = k:=fun z=>e (h1.trans z)
   have b:valueAt (q :: qs) k = valueAt qs k:=by simp [valueAt,List.find?_cons,e']
   rw [nr e,b];exact ih
theorem KV.any {aF:List (κ × V)} {vs:List (κ × Value)} (r:KV aF vs) (k:κ):(aF.any fun kv=>decide (kv.1 = k)) = vs.any fun kv=>decide (kv.1 = k):=by
 unfold KV at r
 induction r with
 | nil=>rfl
 | cons h t ih=>rw [List.any_cons,List.any_cons,ih,h.1]
theorem KV.repl {aF : List (κ × V)} {vs : List (κ × Value)} (r : KV aF vs) (k : κ) (ry : RelV y u) :
    KV (aF.map fun kv=>if kv.1 = k then (kv.1,y) else kv) (vs.map fun kv=>if kv.1 = k then (kv.1,u) else kv):=by
 unfold KV at r ⊢
 induction r with
 | nil=>exact .nil
 | @cons p q ps qs h t ih =>
  rw [List.map_cons,List.map_cons];refine .cons ?_ ih;obtain ⟨h1,h2⟩:=h
  by_cases e:p.1 = k
  ·rw [if_pos e,if_pos (h1.symm.trans e)];exact ⟨h1,ry⟩
  ·rw [if_neg e,if_neg (fun z=>e (h1.trans z))];exact ⟨h1,h2⟩
theorem KV.put {aF:List (κ × V)} {vs:List (κ × Value)} (r:KV aF vs) (k:κ) (ry:RelV y u):KV (putK aF k y) (stored vs k u):=by
 unfold putK stored;rw [r.any k]
 by_cases e:(vs.any fun kv=>decide (kv.1 = k)) = true
 ·rw [if_pos e,if_pos e];exact r.repl k ry
 ·rw [if_neg e,if_neg e];exact Paired.snoc r ⟨rfl,ry⟩
theorem KV.drop {aF:List (κ × V)} {vs:List (κ × Value)} (r:KV aF vs) (k:κ):KV (G3 aF k) (without vs k):=by
 unfold KV at r ⊢;unfold G3 without
 induction r with
 | nil=>exact .nil
 | @cons p q ps qs h t ih =>
  obtain ⟨h1,h2⟩:=h;rw [List.filter_cons,List.filter_cons]
  by_cases e:p.1 = k
  ·have a:¬ decide (p.1 ≠ k) = true:=by simp [e]
   have b:¬ decide (q.1 ≠ k) = true:=by simp [h1.symm.trans e]
   rw [if_neg a,if_neg b];exact ih
  ·have e':¬ q.1 = k:=fun z=>e (h1.trans z)
   have a:decide (p.1 ≠ k) = true:=by simp [e]
   have b:decide (q.1 ≠ k) = true:=by simp [e']
   rw [if_pos a,if_pos b];exact .cons ⟨h1,h2⟩ ih
theorem KV.keys {aF:List (κ × V)} {vs:List (κ × Value)} (r:KV aF vs):aF.map (·.1) = vs.map (·.1):=by
 unfold KV at r
 induction r with
 | nil=>rfl
 | cons h t ih=>rw [List.map_cons,List.map_cons,ih,h.1]
theorem KV.length {aF:List (κ × V)} {vs:List (κ × Value)} (r:KV aF vs):aF.length = vs.length:=Paired.length r
end
theorem CD {k:Key} (r:RelV (kV k) u):(cQ P w).is k u = true:=by
 cases k with
 | inl i=>obtain ⟨t,e⟩:=(show ∃ t,u = Value.int i t from r);subst e;exact uU P w i t
 | inr x=>obtain ⟨t,e⟩:=(show ∃ t,u = Value.str x t from r);subst e;exact uT P w x t
theorem items_are {P:Program} {w:World}:∀ {ks:List Key} {us:List Value},Vals (ks.map kV) us->ItemsAre (cQ P w) ks us
 | [],_,r=>by rw [List.map_nil] at r;cases r;exact .nil
 | k :: ks,_,r=>by
  rw [List.map_cons] at r
  cases r with
  | cons h t=>exact .cons (CD h) (items_are t)
abbrev KT (H:Hp):List (List Key × V)->List (List Key × Addr × Value)->Prop:=Paired fun p q=>p.1 = q.1/\H q.2.1 = some (.tup (p.1.map kV))/\RelV p.2 q.2.2
theorem KT.val (r:KT H aF xs) (k:List Key):RelO (jO aF k) ((atKey xs k).map (·.2)):=by
 induction r with
 | nil=>exact True.intro
 | @cons p q ps qs h t ih =>
  obtain ⟨h1,_,h2⟩:=h
  by_cases e:p.1 = k
  ·have e':q.1 = k:=h1.symm.trans e;have b:atKey (q :: qs) k = some q.2:=by simp [atKey,List.find?_cons,e']
   rw [nq e,b];exact h2
  ·have e':¬ q.1 = k:=fun z=>e (h1.trans z)
   have b:atKey (q :: qs) k = atKey qs k:=by simp [atKey,List.find?_cons,e']
   rw [nr e,b];exact ih
theorem KT.repl (r : KT H aF xs) (k : List Key) (ry : RelV y u) :
    KT H (aF.map fun kv=>if kv.1 = k then (kv.1,y) else kv) (xs.map (putAt k u)):=by
 induction r with
 | nil=>exact .nil
 | @cons p q ps qs h t ih =>
  rw [List.map_cons,List.map_cons];refine .cons ?_ ih;obtain ⟨h1,h2,h3⟩:=h;unfold putAt
  by_cases e:p.1 = k
  ·rw [if_pos e,if_pos (h1.symm.trans e)];exact ⟨h1,h2,ry⟩
  ·rw [if_neg e,if_neg (fun z=>e (h1.trans z))];exact ⟨h1,h2,h3⟩
theorem KT.put (r : KT H aF xs) (k : List Key) (hb : H b = some (.tup (k.map kV))) (ry : RelV y u) :
    KT H (putK aF k y) (storedH xs k b u):=by
 have e:(aF.any fun kv=>decide (kv.1 = k)) = (atKey xs k).isSome:=by
  rw [tJ,(r.val k).isSome_eq,Option.isSome_map]
 unfold putK storedH;rw [e]
 by_cases q:(atKey xs k).isSome = true
 ·rw [if_pos q,if_pos q];exact r.repl k ry
 ·rw [if_neg q,if_neg q];exact Paired.snoc r ⟨rfl,hb,ry⟩
theorem KT.keeps (r:KT H aF xs) (ht:∀ b ys,H b = some (.tup ys)->H' b = some (.tup ys)):KT H' aF xs :=
 Paired.mapP r fun _ _ z=>⟨z.1,ht _ _ z.2.1,z.2.2⟩
section
variable {h:Heap}
theorem Gq {u:HO} (ok:HOk P w H h) (e:Rd H a u):ObjOk P w H h a u:=e.ok ok
theorem C7 {aF:List (Key × V)} (ok:HOk P w H h) (e:Rd H a (.dK aF)):aF.length <= sizeLine/\(a == sysModules) = false/\∃ vs,KV aF vs/\h.DictOf (cQ P w) a vs :=
 show ObjOk P w H h a (.dK aF) from Gq ok e
theorem Mx {aF:List (Key × V)} (ok:HOk P w H h) (e:H a = some (.dK aF)):aF.length <= sizeLine/\(a == sysModules) = false/\∃ vs,KV aF vs/\h.DictOf (cQ P w) a vs:=C7 ok (.inl e)
theorem xy {ks:List Key} (ok:HOk P w H h) (e:H a = some (.tup (ks.map kV))):(tupleKind (cQ P w)).is h ks a:=by
 obtain ⟨_,its,r,o,h1,h2,n,h3⟩:=(show ObjOk P w H h a (.tup (ks.map kV)) from ok a _ e);exact ⟨o,its.toArray,n,h1,h2,h3,by simpa using items_are r⟩
theorem C4 (ok : HOk P w H h) (e : Rd H a (.dT aF)) : aF.length <= sizeLine /\ (a == sysModules) = false /\
    ∃ xs,KT H aF xs/\h.DictOfH (tupleKind (cQ P w)) a xs:=by
 obtain ⟨z,y,xs,r,o,es,ep,h1,h2,h3,h4,h5⟩:=(show ObjOk P w H h a (.dT aF) from Gq ok e);refine ⟨z,y,xs,r,o,es,ep,h1,h2,h3,h4,fun x hx=>?_,h5⟩
 have all:∀ {l:List (List Key × V)} {m:List (List Key × Addr × Value)},KT H l m->∀ x ∈ m,(tupleKind (cQ P w)).is h x.1 x.2.1:=by
  intro l m q
  induction q with
  | nil=>intro x hx;exact nomatch hx
  | @cons p q ps qs hq t ih =>
   intro x hx
   rcases List.mem_cons.mp hx with e | hx
   ·subst e;exact xy ok (by rw [<- hq.1];exact hq.2.1)
   ·exact ih x hx
 exact all r x hx
theorem G0 (ok : HOk P w H h) (e : H a = some (.dT aF)) : aF.length <= sizeLine /\ (a == sysModules) = false /\
    ∃ xs,KT H aF xs/\h.DictOfH (tupleKind (cQ P w)) a xs:=C4 ok (.inl e)
end
def DGet (H:Hp) (a:Addr) (y:V) (r:Option V):Prop :=
 (∃ aF k,Rd H a (.dK aF)/\y = kV k/\r = jO aF k) \/ ∃ aF k b,Rd H a (.dT aF)/\y = .ref b/\H b = some (.tup (k.map kV))/\r = jO aF k
def DPut (H:Hp) (a:Addr) (y v:V) (H':Hp):Prop :=
 (∃ aF k,H a = some (.dK aF)/\y = kV k/\aF.length < sizeLine/\H' = upd H a (.dK (putK aF k v))) \/
 ∃ aF k b,H a = some (.dT aF)/\y = .ref b/\H b = some (.tup (k.map kV))/\aF.length < sizeLine/\H' = upd H a (.dT (putK aF k v))
theorem DGet.k {aF:List (Key × V)} {k:Key} (e:H a = some (.dK aF)):DGet H a (kV k) (jO aF k):=.inl ⟨aF,k,.inl e,rfl,rfl⟩
theorem DGet.t {k:List Key} (e:H a = some (.dT aF)) (eb:H b = some (.tup (k.map kV))):DGet H a (.ref b) (jO aF k):=.inr ⟨aF,k,b,.inl e,rfl,eb,rfl⟩
theorem DPut.k {aF:List (Key × V)} {k:Key} (e:H a = some (.dK aF)) (hl:aF.length < sizeLine):DPut H a (kV k) v (upd H a (.dK (putK aF k v))):=.inl ⟨aF,k,e,rfl,hl,rfl⟩
theorem DPut.t {k : List Key} (e : H a = some (.dT aF)) (eb : H b = some (.tup (k.map kV))) (hl : aF.length < sizeLine) :
    DPut H a (.ref b) v (upd H a (.dT (putK aF k v))):=.inr ⟨aF,k,b,e,rfl,eb,hl,rfl⟩
section
variable {r:Value} {E:Value->Shared->Prop}
theorem Inv.big (I:Inv X pins σ H s):sysModules < s.heap.objs.size:=by
 have h:mainGlobals < s.heap.objs.size:=(I.mod.glob.keeps I.bk).lt;exact Nat.lt_trans (by decide) h
theorem Ab {Q : Value -> Shared -> Prop} (hu : A.units + 1 < cLine) (I : Inv X pins σ H s) (g : DGet H a y (some v)) (ry : RelV y u) (h : ∀ w' s', Inv X pins σ H s' -> RelV v w' -> Q w' s') :
    wpAny (model X.prog X.w) A (getItem (.ref a) u) Q E s:=by
 rcases g with ⟨aF,k,e,ey,l⟩ | ⟨aF,k,b,e,ey,eb,l⟩
 ·subst ey;obtain ⟨z,hd,vs,rel,dd⟩:=C7 I.hok e;obtain ⟨w',hw,Bg⟩:=RelO.some_of (v:=v) (o:=valueAt vs k) (by rw [l];exact rel.val k);exact wpAny_getItem_of (CD ry) dd.mapOf hw (h w' _ (I.tok _) Bg)
 ·subst ey
  cases (show u = Value.ref b from ry)
  obtain ⟨z,hd,xs,rel,dd⟩:=C4 I.hok e;obtain ⟨w',hw,Bg⟩:=RelO.some_of (v:=v) (o:=(atKey xs k).map (·.2)) (by rw [l];exact rel.val k);obtain ⟨p,hp,yw⟩:=Option.map_eq_some_iff.mp hw;refine wpAny_getItem_heap (tupleKind_room_in1 hu) (xy I.hok eb) dd hp ?_;rw [yw];exact h w' _ (I.tok _) Bg
theorem yH {t' : Nat} {ob : HO} (I : Inv X pins σ H s) (mu : Nz (H a)) (hs : Heap.SameBut a s.heap h') (he : ∃ q, h'.get? a = some q) (new : ObjOk X.prog X.w (upd H a ob) h' a ob) :
    Inv X pins σ (upd H a ob) { s with heap:=h',toks:=t' } :=
 I.write (x:=a) (e:=a) mu (.inl rfl) (fun b q hb z=>(hs.2 b hb).trans z) he new
theorem JL {aF : List (Key × V)} {vs : List (Key × Value)} (z : aF.length <= sizeLine) (hd : (a == sysModules) = false) (rel : KV aF vs) (dd : h'.DictOf (cQ P w) a vs) :
    ObjOk P w H' h' a (.dK aF):=⟨z,hd,vs,rel,dd⟩
theorem Aa {Q : Unit -> Shared -> Prop} (hu : A.units + 1 < cLine) (I : Inv X pins σ H s) (g : DPut H a y v H') (ry : RelV y u) (rv : RelV v r) (h : ∀ s', Inv X pins σ H' s' -> Q () s') :
    wpAny (model X.prog X.w) A (setItem (.ref a) u r) Q E s:=by
 rcases g with ⟨aF,k,e,ey,l,eH⟩ | ⟨aF,k,b,e,ey,eb,l,eH⟩
 ·subst ey eH;obtain ⟨z,hd,vs,rel,dd⟩:=Mx I.hok e;have hz:vs.length <= sizeLine:=by rw [<- rel.length];exact z
  have hl:(putK aF k v).length <= sizeLine:=by have:=iV aF k v;omega
  refine wpAny_setItem_pairs (hsz:=hz) (CD ry) dd fun h' N9 hs=>h _ ?_
  have he:∃ q,h'.get? a = some q:=let ⟨q,_,_,hq,_⟩:=N9;⟨q,hq⟩
  exact yH I (by rw [e];exact True.intro) hs he (JL hl hd (rel.put k rv) N9)
 ·subst ey eH
  cases (show u = Value.ref b from ry)
  obtain ⟨z,hd,xs,rel,dd⟩:=G0 I.hok e;have hz:xs.length <= sizeLine:=by rw [<- Paired.length rel];exact z
  have hl:(putK aF k v).length <= sizeLine:=by have:=iV aF k v;omega
  refine wpAny_setItem_heap (hsz:=hz) (tupleKind_room_in1 hu) (xy I.hok eb) dd fun h' N9 hs=>h _ ?_
  obtain ⟨q,es,ep,hq,h2,h3,h4,_,h5⟩:=N9;refine yH I (by rw [e];exact True.intro) hs ⟨q,hq⟩ ⟨hl,hd,_,(rel.put k eb rv).keeps fun c ys ec=>?_,q,es,ep,hq,h2,h3,h4,h5⟩
  rw [aD (Lr ec e (fun z=>nomatch z))];exact ec
end
def J6 (i:Expr):Prop:=∀ ov iv,subscripted i false ov iv = operate [ov,iv] (getItem ov iv)
theorem DV {prog : Program} {E : Value -> Shared -> Prop} {value slice : Expr} {T id : String} {Q : Value -> Shared -> Prop}
    (hl:typeLookup (.type T) "__getitem__" = pure (some (.builtin id))) (hs:J6 slice)
    (h:wpAny (model prog w) A (eval value env) (fun o s₁=>wpAny (model prog w) A (eval slice env) (fun i s₂=>s₂.TypeIs o T/\wpAny (model prog w) A (getItem o i) Q E s₂) E s₁) E s) :
    wpAny (model prog w) A (eval (.Subscript value slice pos) env) Q E s:=by
 refine Subscript_ (wpAny_mono h (fun o s₁ h₁=>wpAny_mono h₁ (fun i s₂ h₂=>?_) fun _ _ x=>x) fun _ _ x=>x)
 obtain ⟨hT,h₂⟩:=h₂;unfold subscriptTail;refine wpAny_bind ?_;rw [getitemInPython_of_ne hT.not_modules];refine wpAny_bind (wpAny_specialOf hT hl ?_);have fin:wpAny (model prog w) A (subscripted slice false o i) (fun r s₃=>wpAny (model prog w) A (letTemporaryGo value o r >>= fun _=>pure r) Q E s₃) E s₂:=by
  rw [hs o i];exact wpAny_operating (wpAny_mono h₂ (fun r s₃ h₃=>wpAny_bind (wpAny_letTemporaryGo (wpAny_pure h₃))) fun _ _ x=>x)
 first
  | exact wpAny_pure (wpAny_bind fin)
  | exact wpAny_bind (wpAny_pure (wpAny_bind fin))
  | exact wpAny_bind fin
theorem vB (I:Inv X pins σ H s) (g:DGet H a y o):s.TypeIs (.ref a) "dict":=by
 rcases g with ⟨aF,k,e,_,_⟩ | ⟨aF,k,b,e,_,_,_⟩
 ·obtain ⟨_,_,vs,_,dd⟩:=C7 I.hok e;exact dd.typeIs
 ·obtain ⟨_,_,xs,_,dd⟩:=C4 I.hok e;exact dd.typeIs
def AO (td ty:TE):TE:=fun σ H Q=>td σ H fun x H1=>ty σ H1 fun y H2=>∃ a v,x = .ref a/\DGet H2 a y (some v)/\Q v H2
def ya (td ty tv:TE):TS:=fun D σ H=>tv σ H fun v H1=>td σ H1 fun x H2=>ty σ H2 fun y H3=>∃ a H4,x = .ref a/\DPut H3 a y v H4/\D.nx σ H4
section
variable {o i e value:Expr} {pos' aa3:Pos} {td ty tv:TE}
theorem EM (hu:X.A.units + 1 < cLine) (ho:PE X o td) (hi:PE X i ty) (hs:J6 i):PE X (.Subscript o i pos) (AO td ty):=by
 intro pins s σ H Q I h;refine DV PySem.F.slot_dict_getitem.lookup hs (cz (ho pins s σ H _ I h) fun u s1 ⟨x,H1,I1,rx,q1⟩=>cz (hi pins s1 σ H1 _ I1 q1) fun iv s2 ⟨y,H2,I2,ry,a,v,ex,g,q2⟩=>?_)
 subst ex;obtain rfl:u = Value.ref a:=rx;exact ⟨vB I2 g,Ab hu I2 g ry fun w' s3 I3 Bg=>⟨v,H2,I3,Bg,q2⟩⟩
theorem Ez (hu : X.A.units + 1 < cLine) (ho : PE X o td) (hi : PE X i ty) (hv : PE X value tv) (hs : swapsWith value (some (.Subscript o i pos')) pos.line X.env = pure false) :
    PS X (.Assign [.Subscript o i pos'] value pos) (ya td ty tv):=by
 intro pins s σ H D I h;refine wpAny_Assign_Subscript (cz (hv pins s σ H _ I h) fun r s1 ⟨v,H1,I1,rv,q1⟩=>cz (ho pins s1 σ H1 _ I1 q1) fun u s2 ⟨x,H2,I2,rx,q2⟩=>cz (hi pins s2 σ H2 _ I2 q2) fun iv s3 ⟨y,H3,I3,ry,a,H4,ex,g,q3⟩=>?_) hs
 subst ex;obtain rfl:u = Value.ref a:=rx;exact Aa hu I3 g ry rv fun s4 I4=>⟨σ,H4,I4,q3⟩
end
theorem C5 (h:Heap) (hb:sysModules < h.objs.size):ObjOk P w H (h.push { cls:=.type "dict",data:=.dict #[] }) h.objs.size (.dT []) :=
 ⟨Nat.zero_le _,beq_eq_false_iff_ne.mpr (Ne.symm (Nat.ne_of_lt hb)),[],.nil,_,#[],0,Heap.get?_push_size _ rfl,⟨rfl,rfl,rfl⟩,rfl,rfl,List.nodup_nil⟩
def wx:TE:=fun _ H Q=>∀ p,H p = none->Q (.ref p) (upd H p (.dT []))
section
theorem B4:PE X (.Dict [] [] pos) wx:=fun pins s σ H Q I h =>
 wpAny_Dict_empty ⟨.ref s.heap.objs.size,_,I.laid (a:=s.heap.objs.size) (o:=.dT []) (t':=s.toks) (fun _ _ q=>Heap.get?_push_of_some _ q) (Nat.le_refl _) (C5 s.heap I.big),rfl,h _ (I.hok.fresh (Nat.le_refl _))⟩
end
end L2
namespace L2
open PySem PySem.Spec PyProof.Rows PySem.SeqAt
section
variable {X:Cx}
inductive NoNum (H:Hp):V->Prop where
 | non:NoNum H .non
 | str (x:Str):NoNum H (.str x)
 | lst {a:Addr} {xs:List V} (e:H a = some (.lst xs)):NoNum H (.ref a)
 | tup {a:Addr} {xs:List V} (e:H a = some (.tup xs)):NoNum H (.ref a)
 | dK {a:Addr} {aF:List (Key × V)} (e:H a = some (.dK aF)):NoNum H (.ref a)
end
end L2
namespace L2
open PySem PySem.Spec PyProof.Rows
variable {X:Cx} {i j:Int} {H H':Hp} {v:V}
def isStar:Expr->Bool
 | .Starred ..=>true
 | _=>false
theorem aN {e:Expr} {es:List Expr} {env:Env} (h:isStar e = false):starEach (e :: es) env = (false,eval e env) :: starEach es env:=by
 cases e <;> first
  | rfl
  | (have h':true = false:=h;cases h')
def noStar:List Expr->Bool
 | []=>true
 | e :: es=>!isStar e && noStar es
theorem cJ {pos:Pos} {env:Env}:∀ {es:List Expr},noStar es = true->(backTo pos (starEach es env)).any (·.1) = false
 | [],_=>rfl
 | e :: es,h=>by
  have h':(!isStar e && noStar es) = true:=h;rw [Bool.and_eq_true] at h';have h1:isStar e = false:=by simpa using h'.1
  rw [aN h1];show (false || (backTo pos (starEach es env)).any (·.1)) = false;rw [cJ h'.2]
  rfl
section
variable {x:Str} {st:Stmt} {ps:List Str} {f:Addr} {fd:FuncData} {k:Nat} {sp:Sp} {e:Expr} {es:List Expr} {t:TA} {te:TE} {p pos:Pos} {id T:String} {r:List V->Hp->VK->Prop}
theorem QF (ha:PE X e te) (hr:PA X es t) (h:isStar e = false:=by rfl):PA X (e :: es) (tT te t):=EU ha hr (aN h)
theorem QD (N : Fn X.K X.mg x st ps f fd) (G : FnOk X.prog X.w X.K X.mg X.base cy k f fd ps sp) (hr : Room k X.A) (ha : PA X (e :: es) t) (hg : Gl X x := by rfl) (sR : (x == ("__debug__" : Str)) = false := by decide) (h1 : isStar e = false := by rfl) (h2 : noStar es = true := by rfl) :
    PE X (.Call (.Name x p) (e :: es) [] pos) (nA sp [] E0 t):=Lj N G hr ha hg sR (aN h1) (cJ h2)
theorem QE (hc : cN X (.builtin id) r) (hm : X.mg x = none) (hv : bootBuiltins x = some (.builtin id)) (ha : PA X (e :: es) t) (hg : Gl X x := by rfl) (hn : x ≠ "__name__" := by decide) (sR : (x == ("__debug__" : Str)) = false := by decide) (h1 : isStar e = false := by rfl) (h2 : noStar es = true := by rfl) :
    PE X (.Call (.Name x p) (e :: es) [] pos) (Hg r t):=B' hc hg hm hv ha hn sR (aN h1) (cJ h2)
theorem QC (hc : cN X (.type T) r) (hm : X.mg x = none) (hv : bootBuiltins x = some (.type T)) (ha : PA X (e :: es) t) (hg : Gl X x := by rfl) (hn : x ≠ "__name__" := by decide) (sR : (x == ("__debug__" : Str)) = false := by decide) (h1 : isStar e = false := by rfl) (h2 : noStar es = true := by rfl) :
    PE X (.Call (.Name x p) (e :: es) [] pos) (Hg r t):=zm hc hg hm hv ha hn sR (aN h1) (cJ h2)
theorem Lb {tg a:Expr} {ta:TA} (hm:X.mg "range" = none) (ha:PA X [a] ta) (hg:Gl X "range":=by rfl) (h1:isStar a = false:=by rfl):PI X tg (.Call (.Name "range" p) [a] [] pos) (yp ta):=zl hg hm ha (by rw [aN h1];rfl)
theorem La {tg a b:Expr} {ta:TA} (hm:X.mg "range" = none) (ha:PA X [a,b] ta) (hg:Gl X "range":=by rfl) (h1:isStar a = false:=by rfl) (h2:isStar b = false:=by rfl):PI X tg (.Call (.Name "range" p) [a,b] [] pos) (yo ta):=zk hg hm ha (by rw [aN h1,aN h2];rfl) (by rw [aN h2];rfl)
end
theorem len_list (z:Str):z.length = z.cps.toList.length:=by simp [Str.length]
theorem app_list (x y:Str):(x ++ y).cps.toList = x.cps.toList ++ y.cps.toList:=by
 show (x.cps ++ y.cps).toList = _;simp
theorem vP {α:Type} [Inhabited α] {xs:List α} (h0:0 <= i) (h1:i < xs.length):∃ c,mS xs i = some c/\c ∈ xs:=by
 obtain ⟨j,rfl⟩:∃ j:Nat,i = j:=⟨i.toNat,by omega⟩;have hj:j < xs.length:=by omega
 exact ⟨xs[j],bZ (List.getElem?_eq_getElem hj),List.getElem_mem hj⟩
theorem ud {z:Str} (h0:0 <= j) (h1:j <= z.length):(Txt.slice z none (some j)).cps.toList = z.cps.toList.take j.toNat:=by
 have e:=slice_closes_to (x:=z) (j:=j) ⟨h0,by rw [<- len_list];exact h1⟩;rw [eq_of_beq e];simp
theorem jT {z:Str} (h0:0 <= j) (h1:j <= z.length):(Txt.slice z (some j) none).cps.toList = z.cps.toList.drop j.toNat:=by
 have e:=slice_closes_from (x:=z) (i:=j) ⟨h0,by rw [<- len_list];exact h1⟩;rw [eq_of_beq e];show ((z.cps.toList.drop j.toNat).take ((z.cps.toList.length:Int) - j).toNat) = _;apply List.take_of_length_le;rw [List.length_drop];omega
section
variable {K:W.Frag}
theorem TyOf.same {t:Value} (ty:TyOf K H v t) (s:Same H H'):TyOf K H' v t:=by
 cases ty with
 | non=>exact .non
 | bl x=>exact .bl x
 | int i=>exact .int i
 | str x=>exact .str x
 | flt x=>exact .flt x
 | lst e=>exact .lst (s _ _ e)
 | frz e=>exact .frz (s _ _ e)
 | tup e=>exact .tup (s _ _ e)
 | dK e=>exact .dK (s _ _ e)
 | dT e=>exact .dT (s _ _ e)
 | ins e cl ha hn NX hm=>exact .ins (s _ _ e) cl ha hn NX hm
theorem NotStr.same (h:NotStr K H v) (s:Same H H'):NotStr K H' v:=by
 obtain ⟨t,ty,k⟩:=h;exact ⟨t,ty.same s,k⟩
theorem NoNum.same (h:NoNum H v) (s:Same H H'):NoNum H' v:=by
 cases h with
 | non=>exact .non
 | str x=>exact .str x
 | lst e=>exact .lst (s _ _ e)
 | tup e=>exact .tup (s _ _ e)
 | dK e=>exact .dK (s _ _ e)
end
section
def jH (K:W.Frag):R2:=fun x y H Q=>zh (fun i j=>.int (i + j)) x y H Q \/ (∃ i j,x = .str i/\y = .str j/\i.length + j.length <= sizeLine/\Q (.str (i ++ j)) H) \/ K7 x y H Q \/ GA K x y H Q
theorem aW:OpR X (binaryOp .Add) (jH X.K):=IU.or (wZ.or (IS.or EW))
def Gw:R2:=fun x y H Q=>rI CMul (fun i j=>.int (i * j)) x y H Q \/ (∃ z n,x = .str z/\y = .int n/\MulOk z n/\Q (.str (Txt.mul z n)) H) \/ K2 x y H Q
theorem ft:OpR X (binaryOp .Mult) Gw:=IM.or (wY.or IL)
def BH:R2:=fun x y H Q=>zh (fun i j=>.bl (decide (i < j))) x y H Q \/ (∃ i j,x = .str i/\y = .str j/\Q (.bl (decide (i.cps.toList < j.cps.toList))) H)
theorem sy:OpR X (compareOp .Lt) BH:=Ln.or zq
def BK:R2:=fun x y H Q=>zh (fun i j=>.bl (decide (i <= j))) x y H Q \/ (∃ i j,x = .str i/\y = .str j/\Q (.bl (!decide (j.cps.toList < i.cps.toList))) H)
theorem oh:OpR X (compareOp .LtE) BK:=Lo.or zr
def zf (K:W.Frag):V->Option Int->Option Int->Hp->VK->Prop:=fun x lo hi H Q=>K0 x lo hi H Q \/ K1 K x lo hi H Q \/ KZ K x lo hi H Q
theorem eO:SlR X (zf X.K):=Hw.or (D4.or Hv)
end
section
variable {K:W.Frag} {σ:St} {D:Ends} {Q:VK} {E:XK}
theorem Bv (hc:0 < j) (h:Q (.int (i % j)) H):rI (fun _ j=>0 < j) (fun i j=>.int (i % j)) (.int i) (.int j) H Q:=⟨i,j,rfl,rfl,hc,h⟩
theorem Ei (hc:0 < j/\j < 1073741824) (h:Q (.int (i / j)) H):rI NC (fun i j=>.int (i / j)) (.int i) (.int j) H Q:=⟨i,j,rfl,rfl,hc,h⟩
theorem HL (hc:0 <= j) (h:Q (.int (i / 2 ^ j.toNat)) H):rI (fun _ j=>0 <= j) (fun i j=>.int (i / 2 ^ j.toNat)) (.int i) (.int j) H Q:=⟨i,j,rfl,rfl,hc,h⟩
theorem Em (h:Q (.int (i + j)) H):jH K (.int i) (.int j) H Q:=.inl ⟨i,j,rfl,rfl,h⟩
theorem dW {i j:Str} (hz:i.length + j.length <= sizeLine) (h:Q (.str (i ++ j)) H):jH K (.str i) (.str j) H Q:=.inr (.inl ⟨i,j,rfl,rfl,hz,h⟩)
theorem aU {p:Addr} {o:HO} (h:H p = none):Same H (upd H p o):=fun b u e=>by rw [aD (df e h)];exact e
theorem yd {l b:Addr} {xs ys:List V} (h1:H l = some (.lst xs)) (h2:H b = some (.lst ys)) (hz:xs.length + ys.length <= sizeLine) (h:∀ p H1,H p = none->Same H H1->H1 p = some (.lst (xs ++ ys))->Q (.ref p) H1):jH K (.ref l) (.ref b) H Q :=
 .inr (.inr (.inl ⟨l,b,xs,ys,rfl,rfl,h1,h2,hz,fun p hp=>h p _ hp (aU hp) aE⟩))
theorem Ef (hc:CMul i j) (h:Q (.int (i * j)) H):Gw (.int i) (.int j) H Q:=.inl ⟨i,j,rfl,rfl,hc,h⟩
theorem HV (h:Q (.bl (decide (i < j))) H):BH (.int i) (.int j) H Q:=.inl ⟨i,j,rfl,rfl,h⟩
theorem HU {i j:Str} (h:Q (.bl (decide (i.cps.toList < j.cps.toList))) H):BH (.str i) (.str j) H Q:=.inr ⟨i,j,rfl,rfl,h⟩
theorem HY (h:Q (.bl (decide (i <= j))) H):BK (.int i) (.int j) H Q:=.inl ⟨i,j,rfl,rfl,h⟩
theorem HX {i j:Str} (h:Q (.bl (!decide (j.cps.toList < i.cps.toList))) H):BK (.str i) (.str j) H Q:=.inr ⟨i,j,rfl,rfl,h⟩
end
end L2
namespace L2
open PySem PySem.Spec PyProof.Rows PySem.SeqAt
variable {H:Hp}
inductive D where
 | non | bl (b:Bool) | int (i:Int) | str (x:Str) | lst (xs:List D) | tup (xs:List D) | dct
mutual
def Rep (H:Hp):D->V->Prop
 | .non,v=>v = .non
 | .bl b,v=>v = .bl b
 | .int i,v=>v = .int i
 | .str x,v=>v = .str x
 | .lst ds,v=>∃ a vs,v = .ref a/\H a = some (.lst vs)/\Reps H ds vs
 | .tup ds,v=>∃ a vs,v = .ref a/\H a = some (.tup vs)/\Reps H ds vs
 | .dct,v=>∃ a aF,v = .ref a/\H a = some (.dK aF)
def Reps (H:Hp):List D->List V->Prop
 | [],vs=>vs = []
 | d :: ds,vs=>∃ v r,vs = v :: r/\Rep H d v/\Reps H ds r
end
mutual
def aK:D->D->Bool
 | .non,.non=>true
 | .bl a,.bl b=>a == b
 | .bl a,.int i=>(if a then 1 else 0) == i
 | .int i,.bl a=>i == (if a then 1 else 0)
 | .int i,.int j=>i == j
 | .str x,.str y=>x == y
 | .lst xs,.lst ys=>eQ xs ys
 | .tup xs,.tup ys=>eQ xs ys
 | .dct,.dct=>true
 | _,_=>false
def eQ:List D->List D->Bool
 | [],[]=>true
 | x :: xs,y :: ys=>aK x y && eQ xs ys
 | _,_=>false
end
mutual
def D.dep:D->Nat
 | .lst ds=>D.deps ds + 1
 | .tup ds=>D.deps ds + 1
 | .dct=>1000
 | _=>0
def D.deps:List D->Nat
 | []=>0
 | d :: ds=>max (D.dep d) (D.deps ds)
end
theorem Reps.length {H:Hp}:∀ {ds:List D} {vs:List V},Reps H ds vs->ds.length = vs.length
 | [],vs,h=>by simp only [Reps] at h;subst h;rfl
 | d :: ds,vs,h=>by
  simp only [Reps] at h;obtain ⟨v,r,rfl,_,h⟩:=h;rw [List.length_cons,List.length_cons,Reps.length h]
mutual
theorem Rep.same {H H':Hp} (s:Same H H'):∀ {d:D} {v:V},Rep H d v->Rep H' d v
 | .non,v,h=>by simp only [Rep] at h ⊢;exact h
 | .bl b,v,h=>by simp only [Rep] at h ⊢;exact h
 | .int b,v,h=>by simp only [Rep] at h ⊢;exact h
 | .str b,v,h=>by simp only [Rep] at h ⊢;exact h
 | .lst ds,v,h=>by simp only [Rep] at h ⊢;obtain ⟨a,vs,e,h1,h2⟩:=h;exact ⟨a,vs,e,s _ _ h1,Reps.same s h2⟩
 | .tup ds,v,h=>by simp only [Rep] at h ⊢;obtain ⟨a,vs,e,h1,h2⟩:=h;exact ⟨a,vs,e,s _ _ h1,Reps.same s h2⟩
 | .dct,v,h=>by simp only [Rep] at h ⊢;obtain ⟨a,vs,e,h1⟩:=h;exact ⟨a,vs,e,s _ _ h1⟩
theorem Reps.same {H H':Hp} (s:Same H H'):∀ {ds:List D} {vs:List V},Reps H ds vs->Reps H' ds vs
 | [],vs,h=>by simp only [Reps] at h ⊢;exact h
 | d :: ds,vs,h=>by simp only [Reps] at h ⊢;obtain ⟨v,r,e,h1,h2⟩:=h;exact ⟨v,r,e,Rep.same s h1,Reps.same s h2⟩
end
mutual
theorem gU:∀ d:D,aK d d = true
 | .non=>by simp [aK]
 | .bl b=>by simp [aK]
 | .int b=>by simp [aK]
 | .str b=>by simp [aK]
 | .lst ds=>by simp only [aK];exact jX ds
 | .tup ds=>by simp only [aK];exact jX ds
 | .dct=>by simp only [aK]
theorem jX:∀ ds:List D,eQ ds ds = true
 | []=>by simp [eQ]
 | d :: ds=>by simp only [eQ];rw [gU d,jX ds];rfl
end
mutual
theorem Rep.inj {H:Hp}:∀ {d e:D} {v:V},Rep H d v->Rep H e v->d = e
 | .non,e,v,h,h'=>by simp only [Rep] at h;subst h;cases e <;> simp only [Rep] at h' <;> first | rfl | (cases h';done) | (obtain ⟨_,_,z,_⟩:=h';cases z)
 | .bl b,e,v,h,h'=>by simp only [Rep] at h;subst h;cases e <;> simp only [Rep] at h' <;> first | (cases h';rfl) | (cases h';done) | (obtain ⟨_,_,z,_⟩:=h';cases z)
 | .int b,e,v,h,h'=>by simp only [Rep] at h;subst h;cases e <;> simp only [Rep] at h' <;> first | (cases h';rfl) | (cases h';done) | (obtain ⟨_,_,z,_⟩:=h';cases z)
 | .str b,e,v,h,h'=>by simp only [Rep] at h;subst h;cases e <;> simp only [Rep] at h' <;> first | (cases h';rfl) | (cases h';done) | (obtain ⟨_,_,z,_⟩:=h';cases z)
 | .lst ds,e,v,h,h'=>by
  simp only [Rep] at h;obtain ⟨a,vs,rfl,h1,h2⟩:=h
  cases e <;> simp only [Rep] at h' <;> first | (cases h';done) | skip
  ·obtain ⟨a',G7,z,jC,h2'⟩:=h'
   cases z
   rw [h1] at jC
   cases jC
   rw [Reps.inj h2 h2']
  ·obtain ⟨a',G7,z,jC,h2'⟩:=h'
   cases z
   rw [h1] at jC
   cases jC
  ·obtain ⟨a',G7,z,jC⟩:=h'
   cases z
   rw [h1] at jC
   cases jC
 | .tup ds,e,v,h,h'=>by
  simp only [Rep] at h;obtain ⟨a,vs,rfl,h1,h2⟩:=h
  cases e <;> simp only [Rep] at h' <;> first | (cases h';done) | skip
  ·obtain ⟨a',G7,z,jC,h2'⟩:=h'
   cases z
   rw [h1] at jC
   cases jC
  ·obtain ⟨a',G7,z,jC,h2'⟩:=h'
   cases z
   rw [h1] at jC
   cases jC
   rw [Reps.inj h2 h2']
  ·obtain ⟨a',G7,z,jC⟩:=h'
   cases z
   rw [h1] at jC
   cases jC
 | .dct,e,v,h,h'=>by
  simp only [Rep] at h;obtain ⟨a,vs,rfl,h1⟩:=h
  cases e <;> simp only [Rep] at h' <;> first | rfl | (cases h';done) | skip
  ·obtain ⟨a',G7,z,jC,h2'⟩:=h'
   cases z
   rw [h1] at jC
   cases jC
  ·obtain ⟨a',G7,z,jC,h2'⟩:=h'
   cases z
   rw [h1] at jC
   cases jC
theorem Reps.inj {H:Hp}:∀ {ds es:List D} {vs:List V},Reps H ds vs->Reps H es vs->ds = es
 | [],es,vs,h,h'=>by
  simp only [Reps] at h;subst h
  cases es with
  | nil=>rfl
  | cons e es=>simp only [Reps] at h';obtain ⟨_,_,z,_⟩:=h';cases z
 | d :: ds,es,vs,h,h'=>by
  simp only [Reps] at h;obtain ⟨v,r,rfl,h1,h2⟩:=h
  cases es with
  | nil=>simp only [Reps] at h';cases h'
  | cons e es =>
   simp only [Reps] at h';obtain ⟨_,_,z,jC,h2'⟩:=h'
   cases z
   rw [Rep.inj h1 jC,Reps.inj h2 h2']
end
theorem oK {A:Around} {s:Shared} {v u:Value} {b:Bool} (hf:∀ c t,v ≠ .float c t) (hs:v = u->b = true) (h:RcAt A s v u b):EqAt A s v u b:=fun prog w E Q hq=>by
 unfold eqBool;refine wpAny_holding ?_;refine wpAny_ite_split (fun hab=>?_) (fun _=>?_)
 ·rw [hs (eq_of_beq hab)] at hq;exact wpAny_bind (wpAny_rule (wpAny_pure hq))
 ·cases v <;> first
   | exact absurd rfl (hf _ _)
   | exact wpAny_bind (h prog w E _ (wpAny_truthy_bool hq))
theorem Rep.noflt {d:D} {x:V} {v:Value} (h:Rep H d x) (r:RelV x v):∀ c t,v ≠ .float c t:=fun c t z=>by
 subst z
 cases d <;> simp only [Rep] at h
 ·subst h;cases (show Value.float c t = Value.none from r)
 ·subst h;cases (show Value.float c t = Value.bool _ from r)
 ·subst h;obtain ⟨_,z⟩:=r;cases z
 ·subst h;obtain ⟨_,z⟩:=r;cases z
 ·obtain ⟨a,_,rfl,_⟩:=h;cases (show Value.float c t = Value.ref a from r)
 ·obtain ⟨a,_,rfl,_⟩:=h;cases (show Value.float c t = Value.ref a from r)
 ·obtain ⟨a,_,rfl,_⟩:=h;cases (show Value.float c t = Value.ref a from r)
def zZ (ds es:List D) (j:Nat):Bool:=aK (ds.getD j .non) (es.getD j .non)
theorem gB:∀ {ds es:List D},ds.length = es.length->(List.range ds.length).all (zZ ds es) = eQ ds es
 | [],[],_=>by simp [eQ]
 | [],_ :: _,h=>by simp at h
 | _ :: _,[],h=>by simp at h
 | d :: ds,e :: es,h=>by
  rw [List.length_cons,List.range_succ_eq_map,List.all_cons,List.all_map];have ih:=gB (ds:=ds) (es:=es) (by simpa using h);simp only [eQ];rw [<- ih]
  rfl
theorem js:∀ {ds es:List D},ds.length ≠ es.length->eQ ds es = false
 | [],[],h=>by simp at h
 | [],_ :: _,_=>by simp [eQ]
 | _ :: _,[],_=>by simp [eQ]
 | d :: ds,e :: es,h=>by
  simp only [eQ];rw [js (ds:=ds) (es:=es) (by simpa using h),Bool.and_false]
theorem Reps.get {H:Hp}:∀ {ds:List D} {vs:List V} {j:Nat},Reps H ds vs->j < ds.length->∃ v,vs[j]? = some v/\Rep H (ds.getD j .non) v
 | [],_,_,_,h=>by simp at h
 | d :: ds,vs,j,h,hj=>by
  simp only [Reps] at h;obtain ⟨v,r,rfl,h1,h2⟩:=h
  cases j with
  | zero=>exact ⟨v,rfl,h1⟩
  | succ j =>
   obtain ⟨w,e,h3⟩:=Reps.get h2 (show j < ds.length by simpa using hj);exact ⟨w,by simpa using e,h3⟩
theorem D.dep_get:∀ (ds:List D) (j:Nat),(ds.getD j .non).dep <= D.deps ds
 | [],j=>by simp [D.dep,D.deps]
 | d :: ds,0=>by simp only [D.deps,List.getD_cons_zero];omega
 | d :: ds,j + 1=>by
  have:=D.dep_get ds j;simp only [D.deps,List.getD_cons_succ];omega
theorem md {n m:Nat} {e:Nat->Bool} {ds es:List D} (hn:n = ds.length) (hm:m = es.length) (he:e = zZ ds es):((List.range (min n m)).all e && n == m) = eQ ds es:=by
 subst hn hm he
 by_cases h:ds.length = es.length
 ·rw [h,Nat.min_self,<- h,gB h];simp
 ·rw [js h,beq_eq_false_iff_ne.mpr h,Bool.and_false]
theorem wO {P:Program} {w:World}:∀ (n:Nat) {A:Around} {s:Shared} {H:Hp} {d e:D} {x y:V} {v u:Value},HOk P w H s.heap->d.dep <= n->e.dep <= n->n < 1000->Rep H d x->Rep H e y->RelV x v->RelV y u->A.units + n < cLine->RcAt A s v u (aK d e)
 | n,A,s,H,d,e,x,y,v,u,hok,hn,oB,ed,hd,he,rx,ry,hu=>by
  have gI:A.units < cLine:=by omega
  have items:∀ {ds es:List D} {vs us:List V} {its iX:List Value},D.deps ds + 1 <= n->D.deps es + 1 <= n->Reps H ds vs->Reps H es us->Vals vs its->Vals us iX->∀ j (h1:j < its.toArray.size) (h2:j < iX.toArray.size),EqAt A.in1 s its.toArray[j] iX.toArray[j] (zZ ds es j):=by
   intro ds es vs us its iX UI Mf r1 r2 v1 v2 j h1 h2;have l1:=r1.length;have l2:=r2.length;have l3:=v1.length;have l4:=v2.length;rw [List.size_toArray] at h1 h2;obtain ⟨a,ea,ra⟩:=r1.get (j:=j) (by omega);obtain ⟨b,eb,rb⟩:=r2.get (j:=j) (by omega);obtain ⟨va,Mu,HG⟩:=v1.get ea;obtain ⟨vb,Mt,KU⟩:=v2.get eb;have ga:its.toArray[j]'(by simpa using h1) = va:=by
    rw [List.getElem?_eq_getElem h1] at Mu;simpa using Option.some.inj Mu
   have gb:iX.toArray[j]'(by simpa using h2) = vb:=by
    rw [List.getElem?_eq_getElem h2] at Mt;simpa using Option.some.inj Mt
   rw [ga,gb];have hdj:=D.dep_get ds j;have UH:=D.dep_get es j;refine oK (ra.noflt HG) (fun z=>?_) (wO (n - 1) hok (by omega) (by omega) (by omega) ra rb HG KU (by rw [Around.in1_units];omega));subst z;have:=HG.inj KU;subst this;have:=ra.inj rb;unfold zZ;rw [this];exact gU _
  cases d with
  | dct=>simp only [D.dep] at hn;omega
  | non =>
   simp only [Rep] at hd;subst hd
   cases (show v = Value.none from rx)
   cases e with
   | dct=>simp only [D.dep] at oB;omega
   | non=>simp only [Rep] at he;subst he;cases (show u = Value.none from ry);simp only [aK];exact RcAt.none_none
   | bl b=>simp only [Rep] at he;subst he;cases (show u = Value.bool b from ry);simp only [aK];exact RcAt.none_bool _
   | int b=>simp only [Rep] at he;subst he;obtain ⟨t,rfl⟩:=ry;simp only [aK];exact RcAt.none_int _ _
   | str b=>simp only [Rep] at he;subst he;obtain ⟨t,rfl⟩:=ry;simp only [aK];exact RcAt.none_str _ _
   | lst ds=>simp only [Rep] at he;obtain ⟨a,vs,rfl,h1,h2⟩:=he;cases (show u = Value.ref a from ry);obtain ⟨_,its,k,_,h3⟩:=(show ObjOk P w H s.heap a (.lst vs) from hok a _ h1);simp only [aK];exact RcAt.none_list (items:=its.toArray) ⟨_,h3,rfl,k,rfl⟩ gI
   | tup ds=>simp only [Rep] at he;obtain ⟨a,vs,rfl,h1,h2⟩:=he;cases (show u = Value.ref a from ry);obtain ⟨_,its,_,h3⟩:=(show ObjOk P w H s.heap a (.tup vs) from hok a _ h1);simp only [aK];exact RcAt.none_tuple h3 gI
  | bl c =>
   simp only [Rep] at hd;subst hd
   cases (show v = Value.bool c from rx)
   cases e with
   | dct=>simp only [D.dep] at oB;omega
   | non=>simp only [Rep] at he;subst he;cases (show u = Value.none from ry);simp only [aK];exact RcAt.bool_none _
   | bl b=>simp only [Rep] at he;subst he;cases (show u = Value.bool b from ry);simp only [aK];exact RcAt.bool_bool _ _
   | int b=>simp only [Rep] at he;subst he;obtain ⟨t,rfl⟩:=ry;simp only [aK];exact RcAt.bool_int _ _ _
   | str b=>simp only [Rep] at he;subst he;obtain ⟨t,rfl⟩:=ry;simp only [aK];exact RcAt.bool_str _ _ _
   | lst ds=>simp only [Rep] at he;obtain ⟨a,vs,rfl,h1,h2⟩:=he;cases (show u = Value.ref a from ry);obtain ⟨_,its,k,_,h3⟩:=(show ObjOk P w H s.heap a (.lst vs) from hok a _ h1);simp only [aK];exact RcAt.bool_list (items:=its.toArray) _ ⟨_,h3,rfl,k,rfl⟩ gI
   | tup ds=>simp only [Rep] at he;obtain ⟨a,vs,rfl,h1,h2⟩:=he;cases (show u = Value.ref a from ry);obtain ⟨_,its,_,h3⟩:=(show ObjOk P w H s.heap a (.tup vs) from hok a _ h1);simp only [aK];exact RcAt.bool_tuple _ h3 gI
  | int c =>
   simp only [Rep] at hd;subst hd;obtain ⟨t',rfl⟩:=rx
   cases e with
   | dct=>simp only [D.dep] at oB;omega
   | non=>simp only [Rep] at he;subst he;cases (show u = Value.none from ry);simp only [aK];exact RcAt.int_none _ _
   | bl b=>simp only [Rep] at he;subst he;cases (show u = Value.bool b from ry);simp only [aK];exact RcAt.int_bool _ _ _
   | int b=>simp only [Rep] at he;subst he;obtain ⟨t,rfl⟩:=ry;simp only [aK];exact RcAt.int_int _ _ _ _
   | str b=>simp only [Rep] at he;subst he;obtain ⟨t,rfl⟩:=ry;simp only [aK];exact RcAt.int_str _ _ _ _
   | lst ds=>simp only [Rep] at he;obtain ⟨a,vs,rfl,h1,h2⟩:=he;cases (show u = Value.ref a from ry);obtain ⟨_,its,k,_,h3⟩:=(show ObjOk P w H s.heap a (.lst vs) from hok a _ h1);simp only [aK];exact RcAt.int_list (items:=its.toArray) _ _ ⟨_,h3,rfl,k,rfl⟩ gI
   | tup ds=>simp only [Rep] at he;obtain ⟨a,vs,rfl,h1,h2⟩:=he;cases (show u = Value.ref a from ry);obtain ⟨_,its,_,h3⟩:=(show ObjOk P w H s.heap a (.tup vs) from hok a _ h1);simp only [aK];exact RcAt.int_tuple _ _ h3 gI
  | str c =>
   simp only [Rep] at hd;subst hd;obtain ⟨t',rfl⟩:=rx
   cases e with
   | dct=>simp only [D.dep] at oB;omega
   | non=>simp only [Rep] at he;subst he;cases (show u = Value.none from ry);simp only [aK];exact RcAt.str_none _ _
   | bl b=>simp only [Rep] at he;subst he;cases (show u = Value.bool b from ry);simp only [aK];exact RcAt.str_bool _ _ _
   | int b=>simp only [Rep] at he;subst he;obtain ⟨t,rfl⟩:=ry;simp only [aK];exact RcAt.str_int _ _ _ _
   | str b=>simp only [Rep] at he;subst he;obtain ⟨t,rfl⟩:=ry;simp only [aK];exact RcAt.str_str _ _ _ _
   | lst ds=>simp only [Rep] at he;obtain ⟨a,vs,rfl,h1,h2⟩:=he;cases (show u = Value.ref a from ry);obtain ⟨_,its,k,_,h3⟩:=(show ObjOk P w H s.heap a (.lst vs) from hok a _ h1);simp only [aK];exact RcAt.str_list (items:=its.toArray) _ _ ⟨_,h3,rfl,k,rfl⟩ gI
   | tup ds=>simp only [Rep] at he;obtain ⟨a,vs,rfl,h1,h2⟩:=he;cases (show u = Value.ref a from ry);obtain ⟨_,its,_,h3⟩:=(show ObjOk P w H s.heap a (.tup vs) from hok a _ h1);simp only [aK];exact RcAt.str_tuple _ _ h3 gI
  | lst cs =>
   simp only [Rep] at hd;obtain ⟨b,ws,rfl,g1,g2⟩:=hd
   cases (show v = Value.ref b from rx)
   obtain ⟨_,Fi,m,g4,g3⟩:=(show ObjOk P w H s.heap b (.lst ws) from hok b _ g1);have gl:s.heap.IsList b Fi.toArray:=⟨_,g3,rfl,m,rfl⟩
   cases e with
   | dct=>simp only [D.dep] at oB;omega
   | non=>simp only [Rep] at he;subst he;cases (show u = Value.none from ry);simp only [aK];exact RcAt.list_none gl gI
   | bl b=>simp only [Rep] at he;subst he;cases (show u = Value.bool b from ry);simp only [aK];exact RcAt.list_bool _ gl gI
   | int b=>simp only [Rep] at he;subst he;obtain ⟨t,rfl⟩:=ry;simp only [aK];exact RcAt.list_int _ _ gl gI
   | str b=>simp only [Rep] at he;subst he;obtain ⟨t,rfl⟩:=ry;simp only [aK];exact RcAt.list_str _ _ gl gI
   | lst ds =>
    simp only [Rep] at he;obtain ⟨a,vs,rfl,h1,h2⟩:=he
    cases (show u = Value.ref a from ry)
    obtain ⟨_,its,k,h4,h3⟩:=(show ObjOk P w H s.heap a (.lst vs) from hok a _ h1);simp only [aK];have l1:=g2.length;have l2:=h2.length;have l3:=g4.length;have l4:=h4.length
    by_cases hl:cs.length = ds.length
    ·rw [<- gB hl];have e1:cs.length = Fi.toArray.size:=by rw [List.size_toArray];omega
     rw [e1];exact RcAt.lists gl ⟨_,h3,rfl,k,rfl⟩ (by rw [List.size_toArray,List.size_toArray];omega) gI (items (by simp only [D.dep] at hn;omega) (by simp only [D.dep] at oB;omega) g2 h2 g4 h4)
    ·rw [js hl];exact RcAt.lists_lengths (items2:=its.toArray) gl ⟨_,h3,rfl,k,rfl⟩ (by rw [List.size_toArray,List.size_toArray];exact bne_iff_ne.mpr (by omega)) gI
   | tup ds=>simp only [Rep] at he;obtain ⟨a,vs,rfl,h1,h2⟩:=he;cases (show u = Value.ref a from ry);obtain ⟨_,its,_,h3⟩:=(show ObjOk P w H s.heap a (.tup vs) from hok a _ h1);simp only [aK];exact RcAt.list_tuple gl h3 gI
  | tup cs =>
   simp only [Rep] at hd;obtain ⟨b,ws,rfl,g1,g2⟩:=hd
   cases (show v = Value.ref b from rx)
   obtain ⟨_,Fi,g4,gl⟩:=(show ObjOk P w H s.heap b (.tup ws) from hok b _ g1)
   cases e with
   | dct=>simp only [D.dep] at oB;omega
   | non=>simp only [Rep] at he;subst he;cases (show u = Value.none from ry);simp only [aK];exact RcAt.tuple_none gl gI
   | bl b=>simp only [Rep] at he;subst he;cases (show u = Value.bool b from ry);simp only [aK];exact RcAt.tuple_bool _ gl gI
   | int b=>simp only [Rep] at he;subst he;obtain ⟨t,rfl⟩:=ry;simp only [aK];exact RcAt.tuple_int _ _ gl gI
   | str b=>simp only [Rep] at he;subst he;obtain ⟨t,rfl⟩:=ry;simp only [aK];exact RcAt.tuple_str _ _ gl gI
   | lst ds=>simp only [Rep] at he;obtain ⟨a,vs,rfl,h1,h2⟩:=he;cases (show u = Value.ref a from ry);obtain ⟨_,its,k,_,h3⟩:=(show ObjOk P w H s.heap a (.lst vs) from hok a _ h1);simp only [aK];exact RcAt.tuple_list (items2:=its.toArray) gl ⟨_,h3,rfl,k,rfl⟩ gI
   | tup ds =>
    simp only [Rep] at he;obtain ⟨a,vs,rfl,h1,h2⟩:=he
    cases (show u = Value.ref a from ry)
    obtain ⟨_,its,h4,h3⟩:=(show ObjOk P w H s.heap a (.tup vs) from hok a _ h1);simp only [aK];have l1:=g2.length;have l2:=h2.length;have l3:=g4.length;have l4:=h4.length;rw [<- md (n:=Fi.toArray.size) (m:=its.toArray.size) (by rw [List.size_toArray];omega) (by rw [List.size_toArray];omega) rfl];exact RcAt.tuples gl h3 gI (items (by simp only [D.dep] at hn;omega) (by simp only [D.dep] at oB;omega) g2 h2 g4 h4)
termination_by n=>n
decreasing_by all_goals simp_wf;omega
theorem Bp {P:Program} {w:World}:∀ (n:Nat) {A:Around} {s:Shared} {H:Hp} {d e:D} {x y:V} {v u:Value},HOk P w H s.heap->d.dep <= n->e.dep <= n->n < 1000->Rep H d x->Rep H e y->RelV x v->RelV y u->A.units + n < cLine->RcNeAt A s v u (!aK d e)
 | n,A,s,H,d,e,x,y,v,u,hok,hn,oB,ed,hd,he,rx,ry,hu=>by
  have gI:A.units < cLine:=by omega
  have items:∀ {ds es:List D} {vs us:List V} {its iX:List Value},D.deps ds + 1 <= n->D.deps es + 1 <= n->Reps H ds vs->Reps H es us->Vals vs its->Vals us iX->∀ j (h1:j < its.toArray.size) (h2:j < iX.toArray.size),EqAt A.in1 s its.toArray[j] iX.toArray[j] (zZ ds es j):=by
   intro ds es vs us its iX UI Mf r1 r2 v1 v2 j h1 h2;have l1:=r1.length;have l2:=r2.length;have l3:=v1.length;have l4:=v2.length;rw [List.size_toArray] at h1 h2;obtain ⟨a,ea,ra⟩:=r1.get (j:=j) (by omega);obtain ⟨b,eb,rb⟩:=r2.get (j:=j) (by omega);obtain ⟨va,Mu,HG⟩:=v1.get ea;obtain ⟨vb,Mt,KU⟩:=v2.get eb;have ga:its.toArray[j]'(by simpa using h1) = va:=by
    rw [List.getElem?_eq_getElem h1] at Mu;simpa using Option.some.inj Mu
   have gb:iX.toArray[j]'(by simpa using h2) = vb:=by
    rw [List.getElem?_eq_getElem h2] at Mt;simpa using Option.some.inj Mt
   rw [ga,gb];have hdj:=D.dep_get ds j;have UH:=D.dep_get es j;refine oK (ra.noflt HG) (fun z=>?_) (wO (n - 1) hok (by omega) (by omega) (by omega) ra rb HG KU (by rw [Around.in1_units];omega));subst z;have:=HG.inj KU;subst this;have:=ra.inj rb;unfold zZ;rw [this];exact gU _
  cases d with
  | dct=>simp only [D.dep] at hn;omega
  | non =>
   simp only [Rep] at hd;subst hd
   cases (show v = Value.none from rx)
   cases e with
   | dct=>simp only [D.dep] at oB;omega
   | non=>simp only [Rep] at he;subst he;cases (show u = Value.none from ry);simp only [aK];exact RcNeAt.none_none
   | bl b=>simp only [Rep] at he;subst he;cases (show u = Value.bool b from ry);simp only [aK];exact RcNeAt.none_bool _
   | int b=>simp only [Rep] at he;subst he;obtain ⟨t,rfl⟩:=ry;simp only [aK];exact RcNeAt.none_int _ _
   | str b=>simp only [Rep] at he;subst he;obtain ⟨t,rfl⟩:=ry;simp only [aK];exact RcNeAt.none_str _ _
   | lst ds=>simp only [Rep] at he;obtain ⟨a,vs,rfl,h1,h2⟩:=he;cases (show u = Value.ref a from ry);obtain ⟨_,its,k,_,h3⟩:=(show ObjOk P w H s.heap a (.lst vs) from hok a _ h1);simp only [aK];exact RcNeAt.none_list (items:=its.toArray) ⟨_,h3,rfl,k,rfl⟩ gI
   | tup ds=>simp only [Rep] at he;obtain ⟨a,vs,rfl,h1,h2⟩:=he;cases (show u = Value.ref a from ry);obtain ⟨_,its,_,h3⟩:=(show ObjOk P w H s.heap a (.tup vs) from hok a _ h1);simp only [aK];exact RcNeAt.none_tuple h3 gI
  | bl c =>
   simp only [Rep] at hd;subst hd
   cases (show v = Value.bool c from rx)
   cases e with
   | dct=>simp only [D.dep] at oB;omega
   | non=>simp only [Rep] at he;subst he;cases (show u = Value.none from ry);simp only [aK];exact RcNeAt.bool_none _
   | bl b=>simp only [Rep] at he;subst he;cases (show u = Value.bool b from ry);simp only [aK];exact RcNeAt.bool_bool _ _
   | int b=>simp only [Rep] at he;subst he;obtain ⟨t,rfl⟩:=ry;simp only [aK];exact RcNeAt.bool_int _ _ _
   | str b=>simp only [Rep] at he;subst he;obtain ⟨t,rfl⟩:=ry;simp only [aK];exact RcNeAt.bool_str _ _ _
   | lst ds=>simp only [Rep] at he;obtain ⟨a,vs,rfl,h1,h2⟩:=he;cases (show u = Value.ref a from ry);obtain ⟨_,its,k,_,h3⟩:=(show ObjOk P w H s.heap a (.lst vs) from hok a _ h1);simp only [aK];exact RcNeAt.bool_list (items:=its.toArray) _ ⟨_,h3,rfl,k,rfl⟩ gI
   | tup ds=>simp only [Rep] at he;obtain ⟨a,vs,rfl,h1,h2⟩:=he;cases (show u = Value.ref a from ry);obtain ⟨_,its,_,h3⟩:=(show ObjOk P w H s.heap a (.tup vs) from hok a _ h1);simp only [aK];exact RcNeAt.bool_tuple _ h3 gI
  | int c =>
   simp only [Rep] at hd;subst hd;obtain ⟨t',rfl⟩:=rx
   cases e with
   | dct=>simp only [D.dep] at oB;omega
   | non=>simp only [Rep] at he;subst he;cases (show u = Value.none from ry);simp only [aK];exact RcNeAt.int_none _ _
   | bl b=>simp only [Rep] at he;subst he;cases (show u = Value.bool b from ry);simp only [aK];exact RcNeAt.int_bool _ _ _
   | int b=>simp only [Rep] at he;subst he;obtain ⟨t,rfl⟩:=ry;simp only [aK];exact RcNeAt.int_int _ _ _ _
   | str b=>simp only [Rep] at he;subst he;obtain ⟨t,rfl⟩:=ry;simp only [aK];exact RcNeAt.int_str _ _ _ _
   | lst ds=>simp only [Rep] at he;obtain ⟨a,vs,rfl,h1,h2⟩:=he;cases (show u = Value.ref a from ry);obtain ⟨_,its,k,_,h3⟩:=(show ObjOk P w H s.heap a (.lst vs) from hok a _ h1);simp only [aK];exact RcNeAt.int_list (items:=its.toArray) _ _ ⟨_,h3,rfl,k,rfl⟩ gI
   | tup ds=>simp only [Rep] at he;obtain ⟨a,vs,rfl,h1,h2⟩:=he;cases (show u = Value.ref a from ry);obtain ⟨_,its,_,h3⟩:=(show ObjOk P w H s.heap a (.tup vs) from hok a _ h1);simp only [aK];exact RcNeAt.int_tuple _ _ h3 gI
  | str c =>
   simp only [Rep] at hd;subst hd;obtain ⟨t',rfl⟩:=rx
   cases e with
   | dct=>simp only [D.dep] at oB;omega
   | non=>simp only [Rep] at he;subst he;cases (show u = Value.none from ry);simp only [aK];exact RcNeAt.str_none _ _
   | bl b=>simp only [Rep] at he;subst he;cases (show u = Value.bool b from ry);simp only [aK];exact RcNeAt.str_bool _ _ _
   | int b=>simp only [Rep] at he;subst he;obtain ⟨t,rfl⟩:=ry;simp only [aK];exact RcNeAt.str_int _ _ _ _
   | str b=>simp only [Rep] at he;subst he;obtain ⟨t,rfl⟩:=ry;simp only [aK];exact RcNeAt.str_str _ _ _ _
   | lst ds=>simp only [Rep] at he;obtain ⟨a,vs,rfl,h1,h2⟩:=he;cases (show u = Value.ref a from ry);obtain ⟨_,its,k,_,h3⟩:=(show ObjOk P w H s.heap a (.lst vs) from hok a _ h1);simp only [aK];exact RcNeAt.str_list (items:=its.toArray) _ _ ⟨_,h3,rfl,k,rfl⟩ gI
   | tup ds=>simp only [Rep] at he;obtain ⟨a,vs,rfl,h1,h2⟩:=he;cases (show u = Value.ref a from ry);obtain ⟨_,its,_,h3⟩:=(show ObjOk P w H s.heap a (.tup vs) from hok a _ h1);simp only [aK];exact RcNeAt.str_tuple _ _ h3 gI
  | lst cs =>
   simp only [Rep] at hd;obtain ⟨b,ws,rfl,g1,g2⟩:=hd
   cases (show v = Value.ref b from rx)
   obtain ⟨_,Fi,m,g4,g3⟩:=(show ObjOk P w H s.heap b (.lst ws) from hok b _ g1);have gl:s.heap.IsList b Fi.toArray:=⟨_,g3,rfl,m,rfl⟩
   cases e with
   | dct=>simp only [D.dep] at oB;omega
   | non=>simp only [Rep] at he;subst he;cases (show u = Value.none from ry);simp only [aK];exact RcNeAt.list_none gl gI
   | bl b=>simp only [Rep] at he;subst he;cases (show u = Value.bool b from ry);simp only [aK];exact RcNeAt.list_bool _ gl gI
   | int b=>simp only [Rep] at he;subst he;obtain ⟨t,rfl⟩:=ry;simp only [aK];exact RcNeAt.list_int _ _ gl gI
   | str b=>simp only [Rep] at he;subst he;obtain ⟨t,rfl⟩:=ry;simp only [aK];exact RcNeAt.list_str _ _ gl gI
   | lst ds =>
    simp only [Rep] at he;obtain ⟨a,vs,rfl,h1,h2⟩:=he
    cases (show u = Value.ref a from ry)
    obtain ⟨_,its,k,h4,h3⟩:=(show ObjOk P w H s.heap a (.lst vs) from hok a _ h1);simp only [aK];have l1:=g2.length;have l2:=h2.length;have l3:=g4.length;have l4:=h4.length
    by_cases hl:cs.length = ds.length
    ·rw [<- gB hl];have e1:cs.length = Fi.toArray.size:=by rw [List.size_toArray];omega
     rw [e1];exact RcNeAt.lists gl ⟨_,h3,rfl,k,rfl⟩ (by rw [List.size_toArray,List.size_toArray];omega) gI (items (by simp only [D.dep] at hn;omega) (by simp only [D.dep] at oB;omega) g2 h2 g4 h4)
    ·rw [js hl];exact RcNeAt.lists_lengths (items2:=its.toArray) gl ⟨_,h3,rfl,k,rfl⟩ (by rw [List.size_toArray,List.size_toArray];exact bne_iff_ne.mpr (by omega)) gI
   | tup ds=>simp only [Rep] at he;obtain ⟨a,vs,rfl,h1,h2⟩:=he;cases (show u = Value.ref a from ry);obtain ⟨_,its,_,h3⟩:=(show ObjOk P w H s.heap a (.tup vs) from hok a _ h1);simp only [aK];exact RcNeAt.list_tuple gl h3 gI
  | tup cs =>
   simp only [Rep] at hd;obtain ⟨b,ws,rfl,g1,g2⟩:=hd
   cases (show v = Value.ref b from rx)
   obtain ⟨_,Fi,g4,gl⟩:=(show ObjOk P w H s.heap b (.tup ws) from hok b _ g1)
   cases e with
   | dct=>simp only [D.dep] at oB;omega
   | non=>simp only [Rep] at he;subst he;cases (show u = Value.none from ry);simp only [aK];exact RcNeAt.tuple_none gl gI
   | bl b=>simp only [Rep] at he;subst he;cases (show u = Value.bool b from ry);simp only [aK];exact RcNeAt.tuple_bool _ gl gI
   | int b=>simp only [Rep] at he;subst he;obtain ⟨t,rfl⟩:=ry;simp only [aK];exact RcNeAt.tuple_int _ _ gl gI
   | str b=>simp only [Rep] at he;subst he;obtain ⟨t,rfl⟩:=ry;simp only [aK];exact RcNeAt.tuple_str _ _ gl gI
   | lst ds=>simp only [Rep] at he;obtain ⟨a,vs,rfl,h1,h2⟩:=he;cases (show u = Value.ref a from ry);obtain ⟨_,its,k,_,h3⟩:=(show ObjOk P w H s.heap a (.lst vs) from hok a _ h1);simp only [aK];exact RcNeAt.tuple_list (items2:=its.toArray) gl ⟨_,h3,rfl,k,rfl⟩ gI
   | tup ds =>
    simp only [Rep] at he;obtain ⟨a,vs,rfl,h1,h2⟩:=he
    cases (show u = Value.ref a from ry)
    obtain ⟨_,its,h4,h3⟩:=(show ObjOk P w H s.heap a (.tup vs) from hok a _ h1);simp only [aK];have l1:=g2.length;have l2:=h2.length;have l3:=g4.length;have l4:=h4.length;rw [<- md (n:=Fi.toArray.size) (m:=its.toArray.size) (by rw [List.size_toArray];omega) (by rw [List.size_toArray];omega) rfl];exact RcNeAt.tuples gl h3 gI (items (by simp only [D.dep] at hn;omega) (by simp only [D.dep] at oB;omega) g2 h2 g4 h4)
section
variable {X:Cx}
def rS:R2:=fun x y H Q=>∃ d e,Rep H d x/\Rep H e y/\d.dep <= 100/\e.dep <= 100/\Q (.bl (aK d e)) H
def rR:R2:=fun x y H Q=>∃ d e,Rep H d x/\Rep H e y/\d.dep <= 100/\e.dep <= 100/\Q (.bl (!aK d e)) H
theorem ck (hu:X.A.units + 100 < cLine):OpR X (compareOp .Eq) rS:=by
 intro pins s σ H x y v u Q I rx ry h;obtain ⟨d,e,hd,he,hn,oB,q⟩:=h;show wpAny _ _ (richCompare .Eq _ _) _ _ s;exact wO 100 I.hok hn oB (by decide) hd he rx ry hu _ _ _ _ ⟨.bl (aK d e),H,I,rfl,q⟩
theorem hU (hu:X.A.units + 100 < cLine):OpR X (compareOp .NotEq) rR:=by
 intro pins s σ H x y v u Q I rx ry h;obtain ⟨d,e,hd,he,hn,oB,q⟩:=h;show wpAny _ _ (richCompare .NotEq _ _) _ _ s;exact Bp 100 I.hok hn oB (by decide) hd he rx ry hu _ _ _ _ ⟨.bl (!aK d e),H,I,rfl,q⟩
end
end L2
namespace L2
open PySem PySem.Spec PyProof.Rows
variable {X:Cx} {K:W.Frag} {σ r:St} {H:Hp} {D:Ends} {Q:VK} {E:XK} {x v:V} {T:String} {b:Bool} {z:Str} {a p:Addr} {xs vs:List V} {i j:Int} {t:TA} {N:List Str} {sc:Scope} {A:Around} {s:Shared} {g:TG} {tb:TS} {ix:List Nat}
theorem u6 (K:W.Frag):W.kitOne K (.type "NoneType") (.type "str") = some false:=by kernel_rfl
theorem u7 (K:W.Frag):W.kitOne K (.type "NoneType") (.type "int") = some false:=by kernel_rfl
theorem pT (K:W.Frag):W.kitOne K (.type "NoneType") (.type "tuple") = some false:=by kernel_rfl
theorem xw (K:W.Frag):W.kitOne K (.type "bool") (.type "str") = some false:=by kernel_rfl
theorem xx (K:W.Frag):W.kitOne K (.type "bool") (.type "int") = some true:=by kernel_rfl
theorem vf (K:W.Frag):W.kitOne K (.type "bool") (.type "bool") = some true:=by kernel_rfl
theorem sO (K:W.Frag):W.kitOne K (.type "bool") (.type "tuple") = some false:=by kernel_rfl
theorem vd (K:W.Frag):W.kitOne K (.type "int") (.type "str") = some false:=by kernel_rfl
theorem ve (K:W.Frag):W.kitOne K (.type "int") (.type "int") = some true:=by kernel_rfl
theorem sM (K:W.Frag):W.kitOne K (.type "int") (.type "bool") = some false:=by kernel_rfl
theorem pV (K:W.Frag):W.kitOne K (.type "int") (.type "tuple") = some false:=by kernel_rfl
theorem u4 (K:W.Frag):W.kitOne K (.type "str") (.type "str") = some true:=by kernel_rfl
theorem u5 (K:W.Frag):W.kitOne K (.type "str") (.type "int") = some false:=by kernel_rfl
theorem pS (K:W.Frag):W.kitOne K (.type "str") (.type "tuple") = some false:=by kernel_rfl
theorem u9 (K:W.Frag):W.kitOne K (.type "list") (.type "str") = some false:=by kernel_rfl
theorem vc (K:W.Frag):W.kitOne K (.type "list") (.type "int") = some false:=by kernel_rfl
theorem pU (K:W.Frag):W.kitOne K (.type "list") (.type "tuple") = some false:=by kernel_rfl
theorem uY (K:W.Frag):W.kitOne K (.type "tuple") (.type "str") = some false:=by kernel_rfl
theorem uZ (K:W.Frag):W.kitOne K (.type "tuple") (.type "int") = some false:=by kernel_rfl
theorem pR (K:W.Frag):W.kitOne K (.type "tuple") (.type "tuple") = some true:=by kernel_rfl
theorem xt (K:W.Frag):W.kitOne K (.type "dict") (.type "str") = some false:=by kernel_rfl
theorem xu (K:W.Frag):W.kitOne K (.type "dict") (.type "int") = some false:=by kernel_rfl
theorem sN (K:W.Frag):W.kitOne K (.type "dict") (.type "tuple") = some false:=by kernel_rfl
section
def Eo (K:W.Frag):List V->Hp->VK->Prop:=fun xs H Q=>∃ x T t b,xs = [x,.ty T]/\TyOf K H x t/\W.kitOne K t (.type T) = some b/\Q (.bl b) H
theorem dg:cN X (.builtin "isinstance") (Eo X.K):=vJ
theorem nQ {t:Value} (ty:TyOf K H x t) (hk:W.kitOne K t (.type T) = some b) (h:Q (.bl b) H):Eo K [x,.ty T] H Q:=⟨x,T,t,b,rfl,ty,hk,h⟩
def zg (K:W.Frag):List V->Hp->VK->Prop:=fun xs H Q=>∃ x n,xs = [x]/\NA K x H n/\Q (.int n) H
theorem bT:cN X (.builtin "len") (zg X.K):=Dh
theorem rO (hz:z.length <= sizeLine) (h:Q (.int z.length) H):zg K [.str z] H Q:=⟨_,_,rfl,⟨hz,rfl⟩,h⟩
theorem yc (e:SqL K H a xs) (h:Q (.int xs.length) H):zg K [.ref a] H Q:=⟨_,_,rfl,.inl ⟨xs,e,rfl⟩,h⟩
theorem yb (e:SqT K H a xs) (h:Q (.int xs.length) H):zg K [.ref a] H Q:=⟨_,_,rfl,.inr ⟨xs,e,rfl⟩,h⟩
def Io:List V->Hp->VK->Prop:=fun xs H Q=>∃ i j,xs = [.int i,.int j]/\Q (.int (max i j)) H
theorem Nt (hc:X.calm = true):cN X (.builtin "max") Io:=fun pins s σ H xs us Q I r h=>Af hc pins s σ H xs us Q I r (by
 obtain ⟨i,j,e,h⟩:=h;refine ⟨i,j,e,?_⟩;rw [show (if j > i then j else i) = max i j by split <;> omega]
 exact h)
theorem HS (h:Q (.int (max i j)) H):Io [.int i,.int j] H Q:=⟨i,j,rfl,h⟩
def Gr:List V->Hp->VK->Prop:=fun xs H Q=>∃ i,xs = [.int i]/\i.natAbs.log2 < 1920/\Q (.str (toString i)) H
theorem G5:cN X (.type "str") Gr:=sU
theorem Bt (hz:i.natAbs.log2 < 1920) (h:Q (.str (toString i)) H):Gr [.int i] H Q:=⟨i,rfl,hz,h⟩
theorem El {sp:Sp} (h:t σ H fun vs H1=>sp vs H1 Q E):nA sp [] E t σ H Q:=by
 unfold nA;simp only [List.append_nil];exact h
def mkT (xs:List V) (H:Hp) (Q:VK):Prop:=xs.length <= sizeLine/\∀ p H1,Same H H1->H1 p = some (.tup xs)->Q (.ref p) H1
def mkL (xs:List V) (H:Hp) (Q:VK):Prop:=xs.length <= sizeLine/\∀ p H1,H p = none->Same H H1->H1 p = some (.lst xs)->Q (.ref p) H1
def AH (t:TA):TE:=fun σ H Q=>t σ H fun xs H1=>mkT xs H1 Q
def AM (t:TA):TE:=fun σ H Q=>t σ H fun xs H1=>mkL xs H1 Q
theorem EH {es:List Expr} {x1} {pos:Pos} (h:PA X es t):PE X (.Tuple es x1 pos) (AH t):=fun pins s σ H Q I hq =>
 wpAny_Tuple_spliced (cz (h pos pins s σ H _ I hq) fun us s1 ⟨xs,H1,I1,r,z,q⟩=>by
  have hf:H1 s1.heap.objs.size = none:=I1.fresh;exact ⟨r.length ▸ z,.ref s1.heap.objs.size,_,I1.laid (o:=.tup xs) (t':=s1.toks) (fun b u=>Heap.get?_push_of_some _) (Nat.le_refl _) ⟨z,us,r,_,Heap.get?_push_size _ rfl,rfl,_,rfl⟩,rfl,q _ _ (aU hf) aE⟩)
theorem EI {es:List Expr} {pos:Pos} (h:PA X es t):PE X (.List es pos) (AM t):=fun pins s σ H Q I hq =>
 wpAny_List_spliced (cz (h pos pins s σ H _ I hq) fun us s1 ⟨xs,H1,I1,r,z,q⟩=>by
  have hf:H1 s1.heap.objs.size = none:=I1.fresh;exact ⟨r.length ▸ z,.ref s1.heap.objs.size,_,I1.laid (o:=.lst xs) (t':=s1.toks) (fun b u=>Heap.get?_push_of_some _) (Nat.le_refl _) ⟨z,us,0,r,Heap.get?_push_size _ rfl⟩,rfl,q _ _ hf (aU hf) aE⟩)
theorem HQ (hz:xs.length <= sizeLine) (h:∀ p H1,Same H H1->H1 p = some (.tup xs)->Q (.ref p) H1):mkT xs H Q:=⟨hz,h⟩
theorem HR (hz:xs.length <= sizeLine) (h:∀ p H1,H p = none->Same H H1->H1 p = some (.lst xs)->Q (.ref p) H1):mkL xs H Q:=⟨hz,h⟩
theorem dU (e:SqL K H a xs) (g:mS xs i = some v) (h:Q v H):En K (.ref a) (.int i) H Q:=.inl ⟨a,xs,i,v,rfl,rfl,e,g,h⟩
theorem rP (e:SqT K H a xs) (g:mS xs i = some v) (h:Q v H):En K (.ref a) (.int i) H Q:=.inr (.inl ⟨a,xs,i,v,rfl,rfl,e,g,h⟩)
theorem wR {c:Nat} (hz:z.length <= sizeLine) (g:mS z.cps.toList i = some c) (h:Q (.str ⟨#[c]⟩) H):En K (.str z) (.int i) H Q:=.inr (.inr ⟨z,i,c,rfl,rfl,hz,g,h⟩)
theorem ir {lo hi:Option Int} (hz:z.length <= sizeLine) (h:Q (.str (Txt.slice z lo hi)) H):zf K (.str z) lo hi H Q:=.inl ⟨z,rfl,hz,h⟩
theorem wQ {lo hi:Option Int} (e:SqL K H a xs) (h:∀ p H1,H p = none->Same H H1->H1 p = some (.lst (kH xs lo hi))->Q (.ref p) H1):zf K (.ref a) lo hi H Q :=
 .inr (.inl ⟨a,xs,rfl,e,fun p hp=>h p _ hp (aU hp) aE⟩)
def BL:R2:=fun x y H Q=>(y = .non/\Q (.bl (decide (x = .non))) H) \/ (∃ i j,x = .bl i/\y = .bl j/\Q (.bl (i == j)) H)
def nS:R2:=fun x y H Q=>(y = .non/\Q (.bl (!decide (x = .non))) H) \/ (∃ i j,x = .bl i/\y = .bl j/\Q (.bl (i != j)) H)
theorem iw:OpR X (compareOp .Is) BL:=IQ.or Ce
theorem Cj:OpR X (compareOp .IsNot) nS:=EV.or uC
theorem Ia (h:Q (.bl (decide (x = .non))) H):BL x .non H Q:=.inl ⟨rfl,h⟩
theorem Ie {i j:Bool} (h:Q (.bl (i == j)) H):BL (.bl i) (.bl j) H Q:=.inr ⟨i,j,rfl,rfl,h⟩
theorem Bx (h:Q (.bl (!decide (x = .non))) H):nS x .non H Q:=.inl ⟨rfl,h⟩
theorem By {i j:Bool} (h:Q (.bl (i != j)) H):nS (.bl i) (.bl j) H Q:=.inr ⟨i,j,rfl,rfl,h⟩
theorem Ik (h:Q (.bl (decide (i = j))) H):rS (.int i) (.int j) H Q:=⟨.int i,.int j,by simp only [Rep],by simp only [Rep],by simp [D.dep],by simp [D.dep],by simp only [aK];rw [Bool.beq_eq_decide_eq];exact h⟩
theorem Ij {i j:Str} (h:Q (.bl (decide (i = j))) H):rS (.str i) (.str j) H Q:=⟨.str i,.str j,by simp only [Rep],by simp only [Rep],by simp [D.dep],by simp [D.dep],by simp only [aK];rw [Bool.beq_eq_decide_eq];exact h⟩
theorem Il {i j:Bool} (h:Q (.bl (i == j)) H):rS (.bl i) (.bl j) H Q:=⟨.bl i,.bl j,by simp only [Rep],by simp only [Rep],by simp [D.dep],by simp [D.dep],by simp only [aK];exact h⟩
theorem HN (h:Q (.bl (!decide (i = j))) H):rR (.int i) (.int j) H Q:=⟨.int i,.int j,by simp only [Rep],by simp only [Rep],by simp [D.dep],by simp [D.dep],by simp only [aK];rw [Bool.beq_eq_decide_eq];exact h⟩
theorem HM {i j:Str} (h:Q (.bl (!decide (i = j))) H):rR (.str i) (.str j) H Q:=⟨.str i,.str j,by simp only [Rep],by simp only [Rep],by simp [D.dep],by simp [D.dep],by simp only [aK];rw [Bool.beq_eq_decide_eq];exact h⟩
theorem HP {i j:Bool} (h:Q (.bl (!(i == j))) H):rR (.bl i) (.bl j) H Q:=⟨.bl i,.bl j,by simp only [Rep],by simp only [Rep],by simp [D.dep],by simp [D.dep],by simp only [aK];exact h⟩
theorem AW {n:Str}:start (n :: N) (v :: vs) = some v :: start N vs:=by simp [start]
theorem AV {n:Str}:start (n :: N) [] = none :: start N []:=by simp [start,List.replicate_succ]
theorem AU:start [] [] = []:=rfl
theorem cxK {CX:DJ} {P:Program} {w:World} {mg:Str->Option Value} {base:Heap} {q:Str} {f:Addr} {cd:Value} {outer:List Env}:(hX CX P w K mg base N q sc f cd A outer s H E).nox.K = K:=rfl
theorem WQ {CX:DJ} {P:Program} {w:World} {mg:Str->Option Value} {base:Heap} {q:Str} {f:Addr} {cd:Value} {outer:List Env}:(hX CX P w K mg base N q sc f cd A outer s H E).K = K:=rfl
theorem My {C:Addr} {ex:List Addr}:(X.comp sc N C s H ex).K = X.K:=rfl
theorem aH {k:Nat} (r:Room k A):A.units + 100 < cLine:=by have:=r.un;omega
theorem aI {p A B:Prop} [Decidable p] (h1:p->A) (h2:¬ p->B):if decide p = true then A else B:=LK (fun h=>h1 (of_decide_eq_true h)) fun h=>h2 (fun z=>h (decide_eq_true z))
theorem fV {p A B:Prop} [Decidable p] (h1:¬ p->A) (h2:p->B):if (!decide p) = true then A else B:=LK (fun h=>h1 (by simpa using h)) fun h=>h2 (by simpa using h)
theorem GK {A B:Prop} (h1:b = true->A) (h2:b = false->B):if b = true then A else B:=by cases b <;> simp_all
theorem fW {A B:Prop} (h1:b = false->A) (h2:b = true->B):if (!b) = true then A else B:=by cases b <;> simp_all
end
section
theorem LH {A B:Prop} (h:B):if (!true) = true then A else B:=by simpa using h
theorem LJ {A B:Prop} (h:A):if (!false) = true then A else B:=by simpa using h
def DC (J:It) (g:TG) (tb:TS) (D:Ends) (σ:St) (H:Hp):Prop:=∃ W:Nat->Nat->St->Hp->Prop,(∃ m,W 0 m σ H)/\∀ i m σ H,W i m σ H ->
 (J.stop i H/\D.nx σ H) \/ (J.go i H/\∃ N:St->Hp->Prop,(∀ σ' H',N σ' H'->∃ m',m' < m/\W (i + 1) m' σ' H')/\∀ x H',J.yld i H x H'->g x σ H' fun σ2 H2=>tb { D with nx:=N,ct:=N,bk:=D.nx } σ2 H2)
theorem Ii {P:Addr->Prop} (e:SqL K H a xs) (h:P a):∃ b,V.ref a = V.ref b/\(∃ xs,SqL K H b xs)/\P b:=⟨a,rfl,⟨xs,e⟩,h⟩
theorem Ih {P:Addr->Prop} (e:SqT K H a xs) (h:P a):∃ b,V.ref a = V.ref b/\(∃ xs,SqT K H b xs)/\P b:=⟨a,rfl,⟨xs,e⟩,h⟩
theorem Ek {P:Int->Prop} (h1:-(2 ^ 62) <= j/\j < 2 ^ 62) (h:P j):∃ k:Int,[V.int j] = [.int k]/\-(2 ^ 62) <= k/\k < 2 ^ 62/\P k:=⟨j,rfl,h1.1,h1.2,h⟩
theorem Ej {P:Int->Int->Prop} (h1:-(2 ^ 62) <= i/\i < 2 ^ 62/\-(2 ^ 62) <= j/\j < 2 ^ 62) (h:P i j):∃ i' j':Int,[V.int i,V.int j] = [.int i',.int j']/\(-(2 ^ 62) <= i'/\i' < 2 ^ 62/\-(2 ^ 62) <= j'/\j' < 2 ^ 62)/\P i' j':=⟨i,j,rfl,h1,h⟩
theorem forL (Pv : Nat -> St -> Hp -> Prop) (h0 : Pv 0 σ H) (hl : ∀ i σ H, Pv i σ H -> SqL K H a xs)
    (hs:∀ i x σ H,i < xs.length->xs[i]? = some x->Pv i σ H->g x σ H fun σ2 H2=>tb { nx:=Pv (i + 1),rt:=D.rt,ct:=Pv (i + 1),bk:=D.nx } σ2 H2) (hd:∀ σ H,Pv xs.length σ H->D.nx σ H):DC (FR K a) g tb D σ H :=
 CV Pv h0 (fun i σ H _=>hl i σ H) (fun i x σ H e p=>hs i x σ H (List.getElem?_eq_some_iff.mp e).1 e p) hd
theorem U1 (Pv : Nat -> St -> Hp -> Prop) (h0 : Pv 0 σ H) (hl : ∀ i σ H, Pv i σ H -> SqT K H a xs)
    (hs:∀ i x σ H,i < xs.length->xs[i]? = some x->Pv i σ H->g x σ H fun σ2 H2=>tb { nx:=Pv (i + 1),rt:=D.rt,ct:=Pv (i + 1),bk:=D.nx } σ2 H2) (hd:∀ σ H,Pv xs.length σ H->D.nx σ H):DC (FQ K a) g tb D σ H :=
 Fw Pv h0 (fun i σ H _=>hl i σ H) (fun i x σ H e p=>hs i x σ H (List.getElem?_eq_some_iff.mp e).1 e p) hd
theorem forR {lo : Int} {n : Nat} (Pv : Nat -> St -> Hp -> Prop) (h0 : Pv 0 σ H)
    (hs:∀ i σ H,i < n->Pv i σ H->g (.int (lo + i)) σ H fun σ2 H2=>tb { nx:=Pv (i + 1),rt:=D.rt,ct:=Pv (i + 1),bk:=D.nx } σ2 H2) (hd:∀ σ H,Pv n σ H->D.nx σ H):DC (Av lo n) g tb D σ H :=
 zX Pv h0 hs hd
theorem Mr (Pv : Nat -> St -> Hp -> Prop) (h0 : Pv 0 σ H)
    (hs:∀ i c σ H,i < z.cps.toList.length->z.cps.toList[i]? = some c->Pv i σ H->g (.str ⟨#[c]⟩) σ H fun σ2 H2=>tb { nx:=Pv (i + 1),rt:=D.rt,ct:=Pv (i + 1),bk:=D.nx } σ2 H2) (hd:∀ σ H,Pv z.cps.toList.length σ H->D.nx σ H):DC (J8 z) g tb D σ H:=by
 have hl:z.cps.toList.length = z.cps.size:=by simp
 refine ⟨fun i m σ H=>m = z.cps.size - i/\i <= z.cps.size/\Pv i σ H,⟨z.cps.size,by simp,Nat.zero_le _,h0⟩,?_⟩
 rintro i m σ H ⟨rfl,hi,p⟩
 by_cases ed:i < z.cps.size
 ·refine .inr ⟨ed,Pv (i + 1),fun σ' H' p'=>⟨z.cps.size - (i + 1),by omega,rfl,ed,p'⟩,fun x H' y=>?_⟩
  obtain ⟨e,c,hc,e'⟩:=y;subst e e';exact hs i c σ _ (by omega) (by simpa using hc) p
 ·have e:i = z.cps.size:=by omega
  subst e;exact .inl ⟨rfl,hd σ H (by rw [hl];exact p)⟩
theorem SS {te : TE} (f : Nat -> V) (hz : z.length <= sizeLine) (hE : ∀ c ∈ z.cps.toList, ∀ R : VK, R (f c) H -> te (some (.str ⟨#[c]⟩) :: pick ix σ) H R)
    (hQ:∀ p H1,H p = none->Same H H1->H1 p = some (.lst (z.cps.toList.map f))->Q (.ref p) H1):Au (J8 z) ix σ tP te Q H :=
 Je f (fun _=>true) hz (fun _ _ _ h=>h) (fun c hc _ R h=>hE c hc R h) (fun p hp=>hQ p _ hp (aU hp) (by rw [aE,List.filter_eq_self.mpr (fun _ _=>rfl)]))
def K8 (K:W.Frag):List V->Hp->VK->Prop:=fun xs H Q=>∃ (p:Addr) (bs:List Bool),xs = [.ref p]/\SqL K H p (bs.map V.bl)/\Q (.bl (bs.all id)) H
theorem qZ (hc:X.calm = true):cN X (.builtin "all") (K8 X.K):=Di hc
theorem lz (bs:List Bool) (e:SqL K H p (bs.map V.bl)) (h:Q (.bl (bs.all id)) H):K8 K [.ref p] H Q:=⟨p,bs,rfl,e,h⟩
def Gx (K:W.Frag):List V->Hp->VK->Prop:=fun xs H Q=>∃ p ys,xs = [.ref p]/\(SqL K H p ys \/ SqT K H p ys)/\∀ l,H l = none->Q (.ref l) (upd H l (.lst ys))
theorem JP:cN X (.type "list") (Gx X.K):=sV
theorem Bw {ys:List V} (e:SqL K H p ys) (h:∀ l H1,H l = none->Same H H1->H1 l = some (.lst ys)->Q (.ref l) H1):Gx K [.ref p] H Q:=⟨p,ys,rfl,.inl e,fun l hl=>h l _ hl (aU hl) aE⟩
end
mutual
def tw:L2.D->Bool
 | .str z=>decide (z.length <= sizeLine)
 | .lst ds=>jR ds
 | .tup ds=>jR ds
 | _=>true
def jR:List L2.D->Bool
 | []=>true
 | d :: ds=>tw d && jR ds
end
def iM (d:L2.D) (lo hi:Int):Bool:=match d with
 | .str z=>iu z lo hi
 | _=>false
def nC:L2.D->Bool
 | .int i=>decide (1 <= i/\i <= 999999999)
 | _=>false
def Kx:L2.D->Bool
 | .non=>true
 | d=>iM d 0 40
def d5:L2.D->Bool
 | .tup [a,b,c]=>iM a 1 20 && nC b && Kx c
 | _=>false
theorem Same.get {H1:Hp} {o:HO} (s:Same H H1) (e:H p = some o):H1 p = some o:=s p o e
theorem Same.tr {H1 H2:Hp} (s:Same H1 H2) (e:Same H H1):Same H H2:=fun p o h=>s p o (e p o h)
theorem Rep.int':Rep H (.int i) (.int i):=by simp only [Rep]
theorem Rep.str' {i:Str}:Rep H (.str i) (.str i):=by simp only [Rep]
theorem Rep.non':Rep H .non .non:=by simp only [Rep]
theorem Rep.mkT {ds:List L2.D} (h:H p = some (.tup vs)) (r:Reps H ds vs):Rep H (.tup ds) (.ref p):=by simp only [Rep];exact ⟨p,vs,rfl,h,r⟩
theorem Rep.mkL {ds:List L2.D} (h:H p = some (.lst vs)) (r:Reps H ds vs):Rep H (.lst ds) (.ref p):=by simp only [Rep];exact ⟨p,vs,rfl,h,r⟩
theorem Reps.nil':Reps H [] []:=by simp only [Reps]
theorem Reps.cons' {d:L2.D} {ds:List L2.D} (h:Rep H d v) (r:Reps H ds vs):Reps H (d :: ds) (v :: vs):=by simp only [Reps];exact ⟨v,vs,rfl,h,r⟩
theorem Rep.tupE {ds:List L2.D} (h:Rep H (.tup ds) v):∃ a vs,v = .ref a/\H a = some (.tup vs)/\Reps H ds vs:=by simp only [Rep] at h;exact h
theorem Reps.consE {d:L2.D} {ds:List L2.D} (h:Reps H (d :: ds) vs):∃ v r,vs = v :: r/\Rep H d v/\Reps H ds r:=by simp only [Reps] at h;exact h
theorem Reps.nilE (h:Reps H [] vs):vs = []:=by simp only [Reps] at h;exact h
theorem Rep.nonI {d:L2.D} (h:Rep H d v):decide (v = .non) = (match d with | .non=>true | _=>false):=by
 cases d <;> simp only [Rep] at h
 ·subst h;rfl
 ·subst h;rfl
 ·subst h;rfl
 ·subst h;rfl
 ·obtain ⟨_,_,rfl,_⟩:=h;rfl
 ·obtain ⟨_,_,rfl,_⟩:=h;rfl
 ·obtain ⟨_,_,rfl,_⟩:=h;rfl
theorem SqL.same {H':Hp} (s:Same H H') (e:SqL K H a xs):SqL K H' a xs:=s.seq e
class bK (g:Prop) (n:outParam Prop):Prop where
 imp:n->g
theorem KY {g n:Prop} [h:bK g n] (k:n):g:=h.imp k
class GetS (σ:St) (i:Nat) (v:outParam V):Prop where
 get:σ[i]? = some (some v)
instance GetS.zero:GetS (some v :: r) 0 v:=⟨rfl⟩
instance GetS.succ {x:Option V} {i:Nat} [h:GetS r i v]:GetS (x :: r) (i + 1) v:=⟨by rw [List.getElem?_cons_succ];exact h.get⟩
class SetS (σ:St) (i:Nat) (v:Option V) (σ':outParam St):Prop where
 set:σ.set i v = σ'
instance SetS.zero {x v:Option V}:SetS (x :: r) 0 v (v :: r):=⟨rfl⟩
instance SetS.succ {x v:Option V} {r':St} {i:Nat} [h:SetS r i v r']:SetS (x :: r) (i + 1) v (x :: r'):=⟨by rw [List.set_cons_succ,h.set]⟩
class PickS (ix:List Nat) (σ:St) (σ':outParam St):Prop where
 eq:pick ix σ = σ'
instance PickS.nil:PickS [] σ []:=⟨rfl⟩
instance PickS.cons {i:Nat} {ix:List Nat} {σ σ':St} {v:V} [g:GetS σ i v] [h:PickS ix σ σ']:PickS (i :: ix) σ (some v :: σ'):=⟨by
 show ((σ[i]?).join :: pick ix σ) = _;rw [g.get,h.eq]
 rfl⟩
section
variable {σ':St} {t u:TS} {te ta tb tc:TE} {c c':TT} {R:Bool->Hp->Prop} {r r':R2} {n:Nat} {a:Bool} {y:Str} {P A B:Prop}
instance i1:bK (AI t u D σ H) (t { D with nx:=u D } σ H):=⟨id⟩
instance i2:bK (AQ te g D σ H) (te σ H fun x H1=>g x σ H1 D.nx):=⟨id⟩
instance i3:bK (DN te D σ H) (te σ H D.rt):=⟨id⟩
instance i5:bK (AN te D σ H) (te σ H fun _ H1=>D.nx σ H1):=⟨id⟩
instance i6:bK (AK D σ H) (D.nx σ H):=⟨id⟩
instance i7:bK (He c t u D σ H) (c σ H fun b H1=>if b = true then t D σ H1 else u D σ H1):=⟨id⟩
instance i8 [g:GetS σ n v]:bK (rG n σ H Q) (Q v H):=⟨fun h=>⟨v,g.get,h⟩⟩
instance i9:bK (tC v σ H Q) (Q v H):=⟨id⟩
instance i10:bK (An r ta tb σ H Q) (ta σ H fun x H1=>tb σ H1 fun y H2=>r x y H2 Q):=⟨id⟩
instance i11 {r:V->Hp->VK->Prop}:bK (Ox r ta σ H Q) (ta σ H fun x H1=>r x H1 Q):=⟨id⟩
instance i12 {g:Int->Int->V}:bK (zh g (.int i) (.int j) H Q) (Q (g i j) H):=⟨fun h=>⟨i,j,rfl,rfl,h⟩⟩
instance i13 {g:Int->V}:bK (rU g (.int i) H Q) (Q (g i) H):=⟨fun h=>⟨i,rfl,h⟩⟩
instance i14:bK (jH K (.int i) (.int j) H Q) (Q (.int (i + j)) H):=⟨Em⟩
instance i15:bK (BH (.int i) (.int j) H Q) (Q (.bl (decide (i < j))) H):=⟨HV⟩
instance i16:bK (BH (.str z) (.str y) H Q) (Q (.bl (decide (z.cps.toList < y.cps.toList))) H):=⟨HU⟩
instance i17:bK (BK (.int i) (.int j) H Q) (Q (.bl (decide (i <= j))) H):=⟨HY⟩
instance i18:bK (BK (.str z) (.str y) H Q) (Q (.bl (!decide (y.cps.toList < z.cps.toList))) H):=⟨HX⟩
instance i19:bK (rS (.int i) (.int j) H Q) (Q (.bl (decide (i = j))) H):=⟨Ik⟩
instance i20:bK (rS (.str z) (.str y) H Q) (Q (.bl (decide (z = y))) H):=⟨Ij⟩
instance i21:bK (rS (.bl a) (.bl b) H Q) (Q (.bl (a == b)) H):=⟨Il⟩
instance i22:bK (rR (.int i) (.int j) H Q) (Q (.bl (!decide (i = j))) H):=⟨HN⟩
instance i23:bK (rR (.str z) (.str y) H Q) (Q (.bl (!decide (z = y))) H):=⟨HM⟩
instance i24:bK (rR (.bl a) (.bl b) H Q) (Q (.bl (!(a == b))) H):=⟨HP⟩
instance i25:bK (tQ te σ H R) (te σ H fun x H'=>∃ k,x = .bl k/\R k H'):=⟨id⟩
instance i26:bK (tB te σ H R) (te σ H fun x H'=>∃ k,x = .bl k/\R k H'):=⟨id⟩
instance i27 {F:Bool->Prop}:bK (∃ c,V.bl a = V.bl c/\F c) (F a):=⟨fun h=>⟨a,rfl,h⟩⟩
instance i28 {F:Int->Prop}:bK (∃ c,V.int i = V.int c/\F c) (F i):=⟨fun h=>⟨i,rfl,h⟩⟩
instance i29 {F:Str->Prop}:bK (∃ c,V.str z = V.str c/\F c) (F z):=⟨fun h=>⟨z,rfl,h⟩⟩
instance i30:bK (Hh c c' σ H R) (c σ H fun b H1=>if b = true then c' σ H1 R else R false H1):=⟨id⟩
instance i31:bK (Oy c c' σ H R) (c σ H fun b H1=>if b = true then R true H1 else c' σ H1 R):=⟨id⟩
instance i32:bK (Hc c σ H R) (c σ H fun b H1=>R (!b) H1):=⟨id⟩
instance i33:bK (AR ta tb σ H Q) (ta σ H fun x H1=>∃ c,x = .bl c/\if c = true then tb σ H1 Q else Q (.bl false) H1):=⟨id⟩
instance i34:bK (Hb ta tb σ H Q) (ta σ H fun x H1=>∃ c,x = .bl c/\if c = true then Q (.bl true) H1 else tb σ H1 Q):=⟨id⟩
instance i35:bK (AJ ta σ H Q) (ta σ H fun x H1=>∃ c,x = .bl c/\Q (.bl (!c)) H1):=⟨id⟩
instance i36:bK (Oz c ta tb σ H Q) (c σ H fun b H1=>if b = true then ta σ H1 Q else tb σ H1 Q):=⟨id⟩
instance i37:bK (nz r r' ta tb tc σ H Q) (ta σ H fun x H1=>tb σ H1 fun y H2=>r x y H2 fun z H3=>∃ k,z = .bl k/\(if k = true then tc σ H3 fun w' H4=>r' y w' H4 Q else Q (.bl false) H3)):=⟨id⟩
instance i38 {sp:Sp} {t:TA}:bK (nA sp [] E t σ H Q) (t σ H fun vs H1=>sp vs H1 Q E):=⟨El⟩
instance i39 {r:List V->Hp->VK->Prop} {t:TA}:bK (Hg r t σ H Q) (t σ H fun vs H1=>r vs H1 Q):=⟨id⟩
instance i40 {F:List V->Hp->Prop}:bK (DO σ H F) (F [] H):=⟨id⟩
instance i41 {tr:TA} {F:List V->Hp->Prop}:bK (tT ta tr σ H F) (ta σ H fun x H1=>tr σ H1 fun xs H2=>F (x :: xs) H2):=⟨id⟩
instance i42 {t:TA}:bK (AH t σ H Q) (t σ H fun xs H1=>mkT xs H1 Q):=⟨id⟩
instance i43 {t:TA}:bK (AM t σ H Q) (t σ H fun xs H1=>mkL xs H1 Q):=⟨id⟩
instance i44:bK (Io [.int i,.int j] H Q) (Q (.int (max i j)) H):=⟨HS⟩
instance i46:bK (BL x .non H Q) (Q (.bl (decide (x = .non))) H):=⟨Ia⟩
instance i47:bK (BL (.bl a) (.bl b) H Q) (Q (.bl (a == b)) H):=⟨Ie⟩
instance i48:bK (nS x .non H Q) (Q (.bl (!decide (x = .non))) H):=⟨Bx⟩
instance i49:bK (nS (.bl a) (.bl b) H Q) (Q (.bl (a != b)) H):=⟨By⟩
instance i50 {r:V->Option Int->Option Int->Hp->VK->Prop} {tl th:TO}:bK (KG r te tl th σ H Q) (te σ H fun x H1=>tl σ H1 fun l H2=>th σ H2 fun u H3=>r x l u H3 Q):=⟨id⟩
instance i51 {F:Option Int->Hp->Prop}:bK (kh σ H F) (F none H):=⟨id⟩
instance i52 {F:Option Int->Hp->Prop}:bK (tR te σ H F) (te σ H fun x H1=>∃ i,x = .int i/\F (some i) H1):=⟨id⟩
instance i53:bK (if true = true then A else B) A:=⟨T8⟩
instance i54:bK (if false = true then A else B) B:=⟨T9⟩
instance i55:bK (if (!true) = true then A else B) B:=⟨LH⟩
instance i56:bK (if (!false) = true then A else B) A:=⟨LJ⟩
instance i57 {wi:TI}:bK (KI ix wi c te σ H Q) (wi σ H fun J H1=>Au J ix σ c te Q H1):=⟨id⟩
instance i58 {wi:TI}:bK (Hf wi g t D σ H) (wi σ H fun J H1=>DC J g t D σ H1):=⟨id⟩
instance i59 {F:St->Hp->Prop} [s:SetS σ n (some v) σ']:bK (oG n v σ H F) (F σ' H):=⟨fun h=>by show F (σ.set n (some v)) H;rw [s.set];exact h⟩
instance i60 {F:It->Hp->Prop}:bK (Jq te σ H F) (te σ H fun x H1=>∃ z,x = .str z/\F (J8 z) H1):=⟨id⟩
instance i61 {F:It->Hp->Prop}:bK (CH K te σ H F) (te σ H fun x H1=>∃ a,x = .ref a/\(∃ xs,SqL K H1 a xs)/\F (FR K a) H1):=⟨id⟩
instance i62 {F:It->Hp->Prop}:bK (Jp K te σ H F) (te σ H fun x H1=>∃ a,x = .ref a/\(∃ xs,SqT K H1 a xs)/\F (FQ K a) H1):=⟨id⟩
instance i63 {t:TA} {F:It->Hp->Prop}:bK (yp t σ H F) (t σ H fun vs H1=>∃ j:Int,vs = [.int j]/\-(2 ^ 62) <= j/\j < 2 ^ 62/\F (Av 0 j.toNat) H1):=⟨id⟩
instance i64 {t:TA} {F:It->Hp->Prop}:bK (yo t σ H F) (t σ H fun vs H1=>∃ i j:Int,vs = [.int i,.int j]/\(-(2 ^ 62) <= i/\i < 2 ^ 62/\-(2 ^ 62) <= j/\j < 2 ^ 62)/\F (Av i (j - i).toNat) H1):=⟨id⟩
instance i68:bK (tP σ H R) (R true H):=⟨id⟩
class dS (n T:String) (b:outParam Bool):Prop where
 eq:∀ K:W.Frag,W.kitOne K (.type n) (.type T) = some b
instance:dS "NoneType" "str" false:=⟨u6⟩
instance:dS "NoneType" "int" false:=⟨u7⟩
instance:dS "NoneType" "tuple" false:=⟨pT⟩
instance:dS "bool" "str" false:=⟨xw⟩
instance:dS "bool" "int" true:=⟨xx⟩
instance:dS "bool" "bool" true:=⟨vf⟩
instance:dS "bool" "tuple" false:=⟨sO⟩
instance:dS "int" "str" false:=⟨vd⟩
instance:dS "int" "int" true:=⟨ve⟩
instance:dS "int" "bool" false:=⟨sM⟩
instance:dS "int" "tuple" false:=⟨pV⟩
instance:dS "str" "str" true:=⟨u4⟩
instance:dS "str" "int" false:=⟨u5⟩
instance:dS "str" "tuple" false:=⟨pS⟩
instance:dS "list" "str" false:=⟨u9⟩
instance:dS "list" "int" false:=⟨vc⟩
instance:dS "list" "tuple" false:=⟨pU⟩
instance:dS "tuple" "str" false:=⟨uY⟩
instance:dS "tuple" "int" false:=⟨uZ⟩
instance:dS "tuple" "tuple" true:=⟨pR⟩
instance:dS "dict" "str" false:=⟨xt⟩
instance:dS "dict" "int" false:=⟨xu⟩
instance:dS "dict" "tuple" false:=⟨sN⟩
instance i70 [k:dS "NoneType" T b]:bK (Eo K [.non,.ty T] H Q) (Q (.bl b) H):=⟨nQ .non (k.eq K)⟩
instance i71 [k:dS "bool" T b]:bK (Eo K [.bl a,.ty T] H Q) (Q (.bl b) H):=⟨nQ (.bl a) (k.eq K)⟩
instance i72 [k:dS "int" T b]:bK (Eo K [.int i,.ty T] H Q) (Q (.bl b) H):=⟨nQ (.int i) (k.eq K)⟩
instance i73 [k:dS "str" T b]:bK (Eo K [.str z,.ty T] H Q) (Q (.bl b) H):=⟨nQ (.str z) (k.eq K)⟩
theorem Ib [k:dS "list" T b] (e:H p = some (.lst xs)) (h:Q (.bl b) H):Eo K [.ref p,.ty T] H Q:=nQ (.lst e) (k.eq K) h
theorem HZ [k:dS "tuple" T b] (e:H p = some (.tup xs)) (h:Q (.bl b) H):Eo K [.ref p,.ty T] H Q:=nQ (.tup e) (k.eq K) h
theorem Ic [k:dS "dict" T b] {xs:List (Key × V)} (e:H p = some (.dK xs)) (h:Q (.bl b) H):Eo K [.ref p,.ty T] H Q:=nQ (.dK e) (k.eq K) h
end
end L2
namespace L2
open PySem PySem.Spec PyProof.Rows PySem.SeqAt
open AutoSeq1 (wpAny_loadPart')
end L2
namespace L2
open PySem PySem.Spec PyProof.Rows
variable {X:Cx} {e o tg:Expr} {es:List Expr} {te:TE} {t:TA} {pos p2:Pos} {x z:Str} {v:V} {T:String} {r:R2} {op:CmpOp} {i:Int} {K:W.Frag} {H:Hp} {Q:VK} {xs:List V} {σ:St} {p:Addr} {b:Bool}
structure BE (X:Cx) (e:Expr) (t:TE):Prop where
 h:PE X e t
structure BT (X:Cx) (e:Expr) (t:TT):Prop where
 h:PT X e t
structure BW (X:Cx) (e:Expr) (t:TT):Prop where
 h:PW X e t
structure BA (X:Cx) (es:List Expr) (t:TA):Prop where
 h:PA X es t
structure BS (X:Cx) (s:Stmt) (t:TS):Prop where
 h:PS X s t
structure Aw (X:Cx) (s:List Stmt) (t:TS):Prop where
 h:PSs X s t
structure BG (X:Cx) (e:Expr) (t:TG):Prop where
 h:PG X e t
structure BI (X:Cx) (tg e:Expr) (t:TI):Prop where
 h:PI X tg e t
structure BO (X:Cx) (e:Option Expr) (t:TO):Prop where
 h:PO X e t
structure BF (X:Cx) (es:List Expr) (t:TT):Prop where
 h:Dv X es t
section
variable {a b c:Expr} {ta tb tc:TE} {tA DQ:TT} {p:Pos} {st:Stmt} {rest xs ys:List Stmt} {s u:TS}
theorem bv (i : Nat) (hN : X.N[i]? = some x := by rfl) (hv : Oc X.env.scope x := by first | exact Or.inl rfl | exact Or.inr (Or.inl rfl) | exact Or.inr (Or.inr rfl)) (hd : (x == ("__debug__" : Str)) = false := by decide)
    (j5:(x == ("__classdict__":Str)) = false:=by decide):BE X (.Name x pos) (rG i):=⟨pv i hN hv hd j5⟩
theorem b_int {i j}:BE X (.Constant (.int i) j pos) (tC (.int i)):=⟨II⟩
theorem iJ {i j}:BE X (.Constant (.bool i) j pos) (tC (.bl i)):=⟨Lk⟩
theorem bB {j}:BE X (.Constant .none j pos) (tC .non):=⟨IH⟩
theorem b_str {x j}:BE X (.Constant (.str x) j pos) (tC (.str x)):=⟨IE⟩
theorem d7 (h:∃ u,X.mg x = some u/\RelV v u) (hg:Gl X x:=by rfl) (hd:(x == ("__debug__":Str)) = false:=by decide):BE X (.Name x pos) (tC v):=⟨Li h hg hd⟩
theorem oX (hm:X.mg x = none) (hv:bootBuiltins x = some (.type T)) (hg:Gl X x:=by rfl) (hn:x ≠ "__name__":=by decide) (hd:(x == ("__debug__":Str)) = false:=by decide):BE X (.Name x pos) (tC (.ty T)):=⟨Ld hm hv hg hn hd⟩
theorem az {op:Operator} (ho:OpR X (binaryOp op) r) (ha:BE X a ta) (hb:BE X b tb):BE X (.BinOp a op b pos) (An r ta tb):=⟨Lf ho ha.h hb.h⟩
theorem JU {op:UnaryOp} {r:V->Hp->VK->Prop} (ho:Od X (unaryOp op) r) (ha:BE X a ta):BE X (.UnaryOp op a pos) (Ox r ta):=⟨Lc ho ha.h⟩
theorem Nx (ha:BE X a ta):BE X (.UnaryOp .Not a pos) (AJ ta):=⟨IG ha.h⟩
theorem eW (ho:OpR X (compareOp op) r) (ha:BE X a ta) (hb:BE X b tb) (hm:behindInMarks op b = false):BE X (.Compare a [op] [b] pos) (An r ta tb):=⟨EN ho ha.h hb.h hm⟩
theorem yO {w5:CmpOp} {r':R2} (ho:OpR X (compareOp op) r) (vj:OpR X (compareOp w5) r') (ha:BE X a ta) (hb:BE X b tb) (hc:BE X c tc) (hm:lastMarks [op,w5] [b,c] = false:=by with_unfolding_all rfl):BE X (.Compare a [op,w5] [b,c] pos) (nz r r' ta tb tc):=⟨B5 ho vj ha.h hb.h hc.h hm⟩
theorem mh {op} (h:BE X a ta):BE X (.BoolOp op [a] pos) ta:=⟨IF h.h⟩
theorem oZ (ha:BE X a ta) (hb:BE X (.BoolOp .And (b :: es) pos) tb):BE X (.BoolOp .And (a :: b :: es) pos) (AR ta tb):=⟨IJ ha.h hb.h⟩
theorem XJ (ha:BE X a ta) (hb:BE X (.BoolOp .Or (b :: es) pos) tb):BE X (.BoolOp .Or (a :: b :: es) pos) (Hb ta tb):=⟨Le ha.h hb.h⟩
theorem JX (hc:BT X c tA) (ha:BE X a ta) (hb:BE X b tb):BE X (.IfExp c a b pos) (Oz tA ta tb):=⟨B3 hc.h ha.h hb.h⟩
theorem af:BA X [] DO:=⟨IK⟩
theorem ai (ha:BE X e te) (hr:BA X es t) (h:isStar e = false):BA X (e :: es) (tT te t):=⟨QF ha.h hr.h h⟩
theorem fw (h:BA X es t):BE X (.List es pos) (AM t):=⟨EI h.h⟩
theorem jb {x1} (h:BA X es t):BE X (.Tuple es x1 pos) (AH t):=⟨EH h.h⟩
theorem cA:BO X none kh:=⟨EB⟩
theorem bY (h:BE X e te):BO X (some e) (tR te):=⟨EA h.h⟩
theorem cn {lo hi:Option Expr} {tl th:TO} {r:V->Option Int->Option Int->Hp->VK->Prop} (hr:SlR X r) (he:BE X e te) (hl:BO X lo tl) (hu:BO X hi th):BE X (.Subscript e (.Slice lo hi none p2) pos) (KG r te tl th):=⟨B0 hr he.h hl.h hu.h⟩
theorem aG (hr:IxR X r) (ha:BE X a ta) (hb:BE X b tb) (hs:yQ b):BE X (.Subscript a b pos) (An r ta tb):=⟨Lh hr ha.h hb.h hs⟩
theorem bF {sf : Stmt} {ps : List Str} {f : Addr} {fd : FuncData} {k : Nat} {sp : Sp} (N : Fn X.K X.mg x sf ps f fd) (G : FnOk X.prog X.w X.K X.mg X.base cy k f fd ps sp) (hr : Room k X.A) (ha : BA X (e :: es) t) (hg : Gl X x := by rfl) (sR : (x == ("__debug__" : Str)) = false := by decide) (h1 : isStar e = false := by rfl) (h2 : noStar es = true := by rfl) :
    BE X (.Call (.Name x p) (e :: es) [] pos) (nA sp [] E0 t):=⟨QD N G hr ha.h hg sR h1 h2⟩
theorem eZ {id : String} {r : List V -> Hp -> VK -> Prop} (hc : cN X (.builtin id) r) (hm : X.mg x = none) (hv : bootBuiltins x = some (.builtin id)) (ha : BA X (e :: es) t) (hg : Gl X x := by rfl) (hn : x ≠ "__name__" := by decide) (sR : (x == ("__debug__" : Str)) = false := by decide) (h1 : isStar e = false := by rfl) (h2 : noStar es = true := by rfl) :
    BE X (.Call (.Name x p) (e :: es) [] pos) (Hg r t):=⟨QE hc hm hv ha.h hg hn sR h1 h2⟩
theorem JV {r : List V -> Hp -> VK -> Prop} (hc : cN X (.type T) r) (hm : X.mg x = none) (hv : bootBuiltins x = some (.type T)) (ha : BA X (e :: es) t) (hg : Gl X x := by rfl) (hn : x ≠ "__name__" := by decide) (sR : (x == ("__debug__" : Str)) = false := by decide) (h1 : isStar e = false := by rfl) (h2 : noStar es = true := by rfl) :
    BE X (.Call (.Name x p) (e :: es) [] pos) (Hg r t):=⟨QC hc hm hv ha.h hg hn sR h1 h2⟩
theorem vM (hm:X.mg "range" = none) (ha:BA X [a] t) (hg:Gl X "range":=by rfl) (h1:isStar a = false:=by rfl):BI X tg (.Call (.Name "range" p) [a] [] pos) (yp t):=⟨Lb hm ha.h hg h1⟩
theorem Nw (hm:X.mg "range" = none) (ha:BA X [a,b] t) (hg:Gl X "range":=by rfl) (h1:isStar a = false:=by rfl) (h2:isStar b = false:=by rfl):BI X tg (.Call (.Name "range" p) [a,b] [] pos) (yo t):=⟨La hm ha.h hg h1 h2⟩
theorem eM (h:BE X e te):BI X tg e (CH X.K te):=⟨EE h.h⟩
theorem lP (h:BE X e te):BI X tg e (Jp X.K te):=⟨IB h.h⟩
theorem oW (h:BE X e te):BI X tg e (Jq te):=⟨IC h.h⟩
theorem fj:BF X [] tP:=⟨BX⟩
theorem sX (h:BT X c tA):BF X [c] tA:=⟨BV h.h⟩
theorem j7 {elt iter : Expr} {ifs : List Expr} {px : Pos} {scope osc : Scope} {fv : List Str} {ix : List Nat} {wi : TI} {tt : TT} (hc : X.calm = true) (S₀ : LcScope scope x fv osc) (DH : ix.map (fun i => X.N[i]?) = fv.map some) (hi : BI X (.Name x px) iter wi)
    (ht:∀ (C:Addr) (s₀:Shared) (H₀:Hp) (ex:List Addr),BF (X.comp scope (x :: fv) C s₀ H₀ ex) ifs tt) (he:∀ (C:Addr) (s₀:Shared) (H₀:Hp) (ex:List Addr),BE (X.comp scope (x :: fv) C s₀ H₀ ex) elt te)
    (xB:X.env.scope = osc:=by rfl) (hs:∀ x,foldedSetIterable iter X.env x = pure x:=by intro _;rfl):BE X (.ListComp elt [⟨.Name x px,iter,ifs,0⟩] scope pos) (KI ix wi tt te) :=
 ⟨Lg hc S₀ DH hi.h (fun C s₀ H₀ ex=>(ht C s₀ H₀ ex).h) (fun C s₀ H₀ ex=>(he C s₀ H₀ ex).h) xB hs⟩
theorem ax (ho:OpR X (compareOp op) r) (ha:BE X a ta) (hb:BE X b tb) (hm:behindInMarks op b = false):BT X (.Compare a [op] [b] pos) (tQ (An r ta tb)):=⟨Eu ho ha.h hb.h hm⟩
theorem vK {w5:CmpOp} {r':R2} (ho:OpR X (compareOp op) r) (vj:OpR X (compareOp w5) r') (ha:BE X a ta) (hb:BE X b tb) (hc:BE X c tc) (hm:lastMarks [op,w5] [b,c] = false:=by with_unfolding_all rfl):BT X (.Compare a [op,w5] [b,c] pos) (tQ (nz r r' ta tb tc)):=⟨BN ho vj ha.h hb.h hc.h hm⟩
theorem bh (h:BE X e te) (he:∀ whole,isTrue e X.env whole = (do let v <- whole;standAt e.pos;holding [v] (truthy v))):BT X e (tB te):=⟨Ir h.h he⟩
theorem bU (h:BT X a tA):BT X (.UnaryOp .Not a pos) (Hc tA):=⟨Iu h.h⟩
theorem eF (h:BW X e tA):BT X e tA:=⟨h.h.pt⟩
theorem d6 (h:BT X a tA):BW X (.BoolOp .And [a] pos) tA:=⟨Ep h.h⟩
theorem dn (h:BT X a tA):BW X (.BoolOp .Or [a] pos) tA:=⟨Ip h.h⟩
theorem fh (ha:BT X a tA) (hb:BW X (.BoolOp .And (b :: es) pos) DQ):BW X (.BoolOp .And (a :: b :: es) pos) (Hh tA DQ):=⟨Iq ha.h hb.h⟩
theorem dt (ha:BT X a tA) (hb:BW X (.BoolOp .Or (b :: es) pos) DQ):BW X (.BoolOp .Or (a :: b :: es) pos) (Oy tA DQ):=⟨K9 ha.h hb.h⟩
theorem aw:Aw X [] AK:=⟨Ex⟩
theorem ag (h1:BS X st s) (h2:Aw X rest u):Aw X (st :: rest) (AI s u):=⟨BP h1.h h2.h⟩
theorem ah (h:BS X st s):Aw X [st] s:=⟨Ew h.h⟩
theorem du:BS X st AL:=⟨BR⟩
theorem ni (h:BE X e te) (hs:swapsWith e none pos.line X.env = pure false:=by rfl):BS X (.Expr e pos) (AN te):=⟨Ey h.h hs⟩
theorem aj (h:BE X e te):BS X (.Return (some e) pos) (DN te):=⟨Iw h.h⟩
theorem aL (hc:BT X c tA) (ha:Aw X xs s) (hb:Aw X ys u):BS X (.If c xs ys pos) (He tA s u):=⟨K' hc.h ha.h hb.h⟩
theorem av {i : Nat} {pos' : Pos} (hN : X.N.Nodup) (hi : X.N[i]? = some x) (hx : Loc X.env.scope x) (he : BE X e te) (hs : swapsWith e (some (.Name x pos')) pos.line X.env = pure false := by rfl) (hf : X.fn x = true \/ X.env.scope.names.lookup x = some .local := by first | exact .inl rfl | exact .inr rfl | assumption) :
    BS X (.Assign [.Name x pos'] e pos) (AQ te (oG i)):=⟨Iv hN hi hx he.h hs hf⟩
theorem dD {i:Nat} (hN:X.N.Nodup) (hi:X.N[i]? = some x) (hx:Loc X.env.scope x) (hf:X.fn x = true \/ X.env.scope.names.lookup x = some .local:=by first | exact .inl rfl | exact .inr rfl | assumption):BG X (.Name x pos) (oG i):=⟨EF hN hi hx hf⟩
theorem fi {iter:Expr} {wi:TI} {g:TG} (hp:PassesOwn (model X.prog X.w) X.A X.env X.xe) (hc:X.calm = true) (hi:BI X tg iter wi) (hg:BG X tg g) (hb:Aw X xs s) (hs:∀ x,foldedSetIterable iter X.env x = pure x:=by intro _;rfl):BS X (.For tg iter xs [] pos) (Hf wi g s):=⟨Iy hp hc hi.h hg.h hb.h hs⟩
end
instance k0 {A B:Prop}:bK (if (true == true) = true then A else B) A:=⟨fun h=>by simpa using h⟩
instance k1 {A B:Prop}:bK (if (true != true) = true then A else B) B:=⟨fun h=>by simpa using h⟩
instance k2 {A B:Prop}:bK (if (true == false) = true then A else B) B:=⟨fun h=>by simpa using h⟩
instance k3 {A B:Prop}:bK (if (true != false) = true then A else B) A:=⟨fun h=>by simpa using h⟩
instance k4 {A B:Prop}:bK (if (false == true) = true then A else B) B:=⟨fun h=>by simpa using h⟩
instance k5 {A B:Prop}:bK (if (false != true) = true then A else B) A:=⟨fun h=>by simpa using h⟩
instance k6 {A B:Prop}:bK (if (false == false) = true then A else B) A:=⟨fun h=>by simpa using h⟩
instance k7 {A B:Prop}:bK (if (false != false) = true then A else B) B:=⟨fun h=>by simpa using h⟩
theorem jo {a:Addr} (e:SqL K H a xs) (h0:0 <= i) (h1:i < xs.length) (h:∀ v ∈ xs,Q v H):En K (.ref a) (.int i) H Q:=by
 obtain ⟨j,rfl⟩:∃ j:Nat,i = j:=⟨i.toNat,by omega⟩;have hj:j < xs.length:=by omega
 exact dU e (bZ (List.getElem?_eq_getElem hj)) (h _ (List.getElem_mem hj))
section
variable {P:Program} {w:World} {mg:Str->Option Value} {base:Heap}
theorem Fun.okB {qual : Str} {st : Stmt} {f : Addr} {fd : FuncData} {N ps : List Str} {k : Nat} {sp : Sp} (F : Fun K x qual st f fd) (S : aq N ps (ae st)) (len : ∀ vs H Q E, sp vs H Q E -> vs.length = ps.length)
    (fZ:∀ (bq:Value) (A:Around) (outer:List Env) (s:Shared) (H:Hp) (vs:List V) (Q:VK) (E:XK),Room k (A.deeper (envOfC qual (ae st) s.heap.objs.size f bq))->sp vs H Q E ->
     ∃ t,Aw (hX cy P w K mg base N qual (ae st) f bq A outer s H E).nox (ao st) t/\t { nx:=fun _ H'=>Q .non H',rt:=Q } (start N vs) H):FnOk P w K mg base cy (k + 1) f fd ps sp :=
 F.ok S len fun bq A outer s H vs Q E hr hs=>let ⟨t,h,q⟩:=fZ bq A outer s H vs Q E hr hs;⟨t,h.h,q⟩
end
section
variable {to:TE} {apos cH:Pos}
def LL {α:Type} (k:Nat) (y:α) (xs:List α):List α:=xs.take k ++ y :: xs.drop k
theorem lO (ho : BE X o to) (ha : BA X (e :: es) t) (gc : attributeBase o "append" X.env (eval o X.env) = eval o X.env := by rfl)
    (j4:((backTo cH (starEach (e :: es) X.env)).all (fun x=>!x.1) && (backToKw cH (keywordEach [] X.env)).all (fun x=>x.1.isSome)
     && decide ((e :: es).length + ([]:List Keyword).length + (if ([]:List Keyword).isEmpty then 0 else 1) < 30)) = true:=by rfl)
    (fY:(apos.endLine == cH.line) = true:=by rfl) (h1:isStar e = false:=by rfl) (h2:noStar es = true:=by rfl) :
    BE X (.Call (.Attribute o "append" apos) (e :: es) [] cH) (DP X.K "list" rT to t) :=
 ⟨nU F.plainAttrs_list F.slot_list_append F.type_list_append zD ho.h ha.h gc j4 fY (aN h1) (cJ h2)⟩
instance j1 {r:V->List V->Hp->VK->Prop}:bK (DP K T r to t σ H Q) (to σ H fun x H1=>NF K T x H1/\t σ H1 fun xs H2=>r x xs H2 Q):=⟨id⟩
theorem Im {P:Prop} (e:H p = some (.lst xs)) (h:P):NF K "list" (.ref p) H/\P:=⟨.inl ⟨rfl,_,SqL.of e⟩,h⟩
theorem jq {l:Addr} {y:V} (e:H l = some (.lst xs)) (hz:xs.length < sizeLine) (h:Q .non (upd H l (.lst (xs ++ [y])))):rT (.ref l) [y] H Q:=⟨l,xs,y,rfl,rfl,e,hz,h⟩
instance j3 {A B:Prop}:bK (if (!(b == b)) = true then A else B) B:=⟨fun h=>by simpa using h⟩
instance GetS.pick {ix:List Nat} {σ':St} {i:Nat} [p:PickS ix σ σ'] [g:GetS σ' i v]:GetS (pick ix σ) i v:=⟨by rw [p.eq];exact g.get⟩
end
instance n0 {A B:Prop} :bK (if decide ((.non:V) = .non) = true then A else B) A:=⟨fun h=>by simpa using h⟩
instance n1 {A B:Prop} :bK (if (!decide ((.non:V) = .non)) = true then A else B) B:=⟨fun h=>by simpa using h⟩
instance n2 {A B:Prop}:bK (if decide (((.ref p):V) = .non) = true then A else B) B:=⟨fun h=>by simpa using h⟩
instance n3 {A B:Prop}:bK (if (!decide (((.ref p):V) = .non)) = true then A else B) A:=⟨fun h=>by simpa using h⟩
instance n4 {A B:Prop}:bK (if decide (((.int i):V) = .non) = true then A else B) B:=⟨fun h=>by simpa using h⟩
instance n5 {A B:Prop}:bK (if (!decide (((.int i):V) = .non)) = true then A else B) A:=⟨fun h=>by simpa using h⟩
instance n6 {A B:Prop}:bK (if decide (((.str z):V) = .non) = true then A else B) B:=⟨fun h=>by simpa using h⟩
instance n7 {A B:Prop}:bK (if (!decide (((.str z):V) = .non)) = true then A else B) A:=⟨fun h=>by simpa using h⟩
instance n8 {A B:Prop}:bK (if decide (((.bl b):V) = .non) = true then A else B) B:=⟨fun h=>by simpa using h⟩
instance n9 {A B:Prop}:bK (if (!decide (((.bl b):V) = .non)) = true then A else B) A:=⟨fun h=>by simpa using h⟩
section
theorem Ck (h:X.K = K):OpR X (binaryOp .Add) (jH K):=h ▸ aW
theorem cR (h:X.K = K):IxR X (En K):=h ▸ ak
theorem JR (h:X.K = K):cN X (.builtin "len") (zg K):=h ▸ bT
end
abbrev Ent:=Str × Int × L2.D
def aC (e:Ent):L2.D:=.tup [.str e.1,.int e.2.1,e.2.2]
theorem Reps.at {H:Hp} {α:Type} {f:α->L2.D}:∀ {es:List α} {vs:List V} {j:Nat} {v:V},Reps H (es.map f) vs->vs[j]? = some v->∃ e,es[j]? = some e/\Rep H (f e) v
 | [],vs,j,v,h,e=>by
  rw [List.map_nil] at h;rw [h.nilE] at e;simp at e
 | x :: es,vs,j,v,h,e=>by
  rw [List.map_cons] at h;obtain ⟨u,r,rfl,h1,h2⟩:=h.consE
  cases j with
  | zero =>
   simp at e;subst e;exact ⟨x,rfl,h1⟩
  | succ j =>
   obtain ⟨y,e1,e2⟩:=Reps.at (es:=es) (j:=j) h2 (by simpa using e);exact ⟨y,by simpa using e1,e2⟩
theorem gS {H1:Hp} {l:Addr} {o:HO} (s:Same H H1) (h:H l = none):Same H (upd H1 l o):=fun b u e=>by
 rw [aD (df e h)];exact s b u e
theorem Reps.take {H:Hp}:∀ {ds:List L2.D} {vs:List V} (n:Nat),Reps H ds vs->Reps H (ds.take n) (vs.take n)
 | ds,vs,0,_=>by rw [List.take_zero,List.take_zero];exact Reps.nil'
 | [],vs,n + 1,h=>by rw [h.nilE];exact Reps.nil'
 | d :: ds,vs,n + 1,h=>by
  obtain ⟨v,r,rfl,h1,h2⟩:=h.consE;exact Reps.cons' h1 (Reps.take n h2)
theorem Reps.drop {H:Hp}:∀ {ds:List L2.D} {vs:List V} (n:Nat),Reps H ds vs->Reps H (ds.drop n) (vs.drop n)
 | ds,vs,0,h=>h
 | [],vs,n + 1,h=>by rw [h.nilE];exact Reps.nil'
 | d :: ds,vs,n + 1,h=>by
  obtain ⟨v,r,rfl,h1,h2⟩:=h.consE;exact Reps.drop n h2
theorem Reps.append {H:Hp}:∀ {ds es:List L2.D} {vs us:List V},Reps H ds vs->Reps H es us->Reps H (ds ++ es) (vs ++ us)
 | [],es,vs,us,h,h'=>by rw [h.nilE];exact h'
 | d :: ds,es,vs,us,h,h'=>by
  obtain ⟨v,r,rfl,h1,h2⟩:=h.consE;exact Reps.cons' h1 (Reps.append h2 h')
theorem Reps.ins {H:Hp} {ds:List L2.D} {vs:List V} {d:L2.D} {v:V} (k:Nat) (h:Reps H ds vs) (h1:Rep H d v):Reps H (LL k d ds) (LL k v vs):=(h.take k).append (Reps.cons' h1 (h.drop k))
section
variable {to:TE} {apos cH:Pos}
def FU (i j:Int):Prop:=0 <= j/\(Builtin.Int.intBits i:Int) + j <= 2 ^ 27
theorem Ci:OpR X (binaryOp .LShift) (rI FU fun i j=>.int (i * 2 ^ j.toNat)):=Lp fun _ _ _ _ _ _ _ hc q=>lshift_int hc.1 hc.2 q
theorem rN {j:Int} (hc:FU i j) (h:Q (.int (i * 2 ^ j.toNat)) H):rI FU (fun i j=>.int (i * 2 ^ j.toNat)) (.int i) (.int j) H Q:=⟨i,j,rfl,rfl,hc,h⟩
def BM:V->List V->Hp->VK->Prop:=fun x vs H Q=>∃ z y i r,x = .str z/\vs = [.str y]/\Builtin.Str.occurrences z y 0 z.length 1 = i :: r/\Q (.int (i:Nat)) H
theorem zC:J7 X "str.index" BM:=by
 intro pins s σ H x vs v us Q I rx rv h;obtain ⟨z,y,i,r,rfl,rfl,ho,q⟩:=h;obtain ⟨t,rfl⟩:=rx;obtain ⟨u,rfl,t',rfl⟩:=rv.one;exact call_gives F.slot_str_index (typeIs_str s z t) F.entry_str_index (F.args_str_index_2 _ _) (gives_str_index z y t t' i r ho) ⟨.int i,H,I.tok _,⟨_,rfl⟩,q⟩
def rJoin (K:W.Frag):V->List V->Hp->VK->Prop:=fun x vs H Q=>∃ z p ys,x = .str z/\vs = [.ref p]/\SqL K H p (ys.map V.str)/\(ys.map (·.length)).sum + ys.length * z.length <= 16777216/\Q (.str (Txt.join z ys)) H
theorem strsAre_of:∀ {ys:List Str} {us:List Value},Vals (ys.map V.str) us->StrsAre us ys
 | [],_,r=>by rw [List.map_nil] at r;cases r;exact .nil
 | y :: ys,_,r=>by
  rw [List.map_cons] at r
  cases r with
  | cons r1 r2 =>
   obtain ⟨t,rfl⟩:=r1;exact .cons y t (strsAre_of r2)
theorem E5:J7 X "str.join" (rJoin X.K):=by
 intro pins s σ H x vs v us Q I rx rv h;obtain ⟨z,p,ys,rfl,rfl,hp,hz,q⟩:=h;obtain ⟨t,rfl⟩:=rx;obtain ⟨u,rfl,ru⟩:=rv.one
 cases (show u = Value.ref p from ru)
 obtain ⟨its,r,pl,_⟩:=I.list hp;exact join_list pl.isList (by simpa using strsAre_of r) hz fun t' k=>⟨.str (Txt.join z ys),H,I.tok _,⟨_,rfl⟩,q⟩
def Gv:V->List V->Hp->VK->Prop:=fun x vs H Q=>∃ z y,x = .str z/\vs = [.str y]/\(y.length == 0) = false/\z.length <= sizeLine/\∀ p H1,Same H H1->H1 p = some (.tup [.str (Txt.partition z y).1,.str (Txt.partition z y).2.1,.str (Txt.partition z y).2.2])->Q (.ref p) H1
theorem E4:J7 X "str.partition" Gv:=by
 intro pins s σ H x vs v us Q I rx rv h;obtain ⟨z,y,rfl,rfl,hy,hz,q⟩:=h;obtain ⟨t,rfl⟩:=rx;obtain ⟨u,rfl,t',rfl⟩:=rv.one;have fin:∀ (vs:List Value) (tk:Nat),Vals [.str (Txt.partition z y).1,.str (Txt.partition z y).2.1,.str (Txt.partition z y).2.2] vs->EP X pins σ Q (.ref s.heap.objs.size) { s with toks:=tk,heap:=s.heap.push { cls:=.type "tuple",data:=.seq vs.toArray } }:=fun vs tk rv =>
  ⟨.ref s.heap.objs.size,_,I.laid (o:=.tup _) (t':=tk) (fun b u=>Heap.get?_push_of_some _) (Nat.le_refl _) ⟨by simp only [List.length_cons,List.length_nil];decide,vs,rv,_,Heap.get?_push_size _ rfl,rfl,_,rfl⟩,rfl,q _ _ (aU I.fresh) aE⟩
 refine call_meets F.slot_str_partition (typeIs_str s z t) F.entry_str_partition (F.args_str_partition_2 _ _) (meets_str_partition z y t t' hy hz) ?_;unfold Txt.partition at fin
 revert fin
 cases Builtin.Str.occurrences z y 0 z.length 1 with
 | nil=>intro fin;exact fin _ _ (.cons ⟨_,rfl⟩ (.cons ⟨_,rfl⟩ (.cons ⟨_,rfl⟩ .nil)))
 | cons i r=>intro fin;exact fin _ _ (.cons ⟨_,rfl⟩ (.cons ⟨_,rfl⟩ (.cons ⟨_,rfl⟩ .nil)))
def Gz:List V->Hp->VK->Prop:=fun xs H Q=>∃ z n,xs = [.str z]/\PySem.intText? z = some n/\z.length <= 640/\Q (.int n) H
theorem Nu:cN X (.type "int") Gz:=by
 intro pins s σ H xs us Q I r h;obtain ⟨z,n,rfl,hn,hz,q⟩:=h;obtain ⟨u,rfl,t,rfl⟩:=vals1 r;exact W.KIN.call_text hn hz ⟨.int n,H,I.tok _,⟨_,rfl⟩,q⟩
theorem Eh {n:Int} (hn:PySem.intText? z = some n) (hz:z.length <= 640) (h:Q (.int n) H):Gz [.str z] H Q:=⟨z,n,rfl,hn,hz,h⟩
theorem Dm (ho : BE X o to) (ha : BA X (e :: es) t) (gc : attributeBase o "index" X.env (eval o X.env) = eval o X.env := by rfl)
    (j4:((backTo cH (starEach (e :: es) X.env)).all (fun x=>!x.1) && (backToKw cH (keywordEach [] X.env)).all (fun x=>x.1.isSome)
     && decide ((e :: es).length + ([]:List Keyword).length + (if ([]:List Keyword).isEmpty then 0 else 1) < 30)) = true:=by rfl)
    (fY:(apos.endLine == cH.line) = true:=by rfl) (h1:isStar e = false:=by rfl) (h2:noStar es = true:=by rfl) :
    BE X (.Call (.Attribute o "index" apos) (e :: es) [] cH) (DP X.K "str" BM to t) :=
 ⟨nU F.plainAttrs_str F.slot_str_index F.type_str_index zC ho.h ha.h gc j4 fY (aN h1) (cJ h2)⟩
theorem yL (ho : BE X o to) (ha : BA X (e :: es) t) (gc : attributeBase o "join" X.env (eval o X.env) = eval o X.env := by rfl)
    (j4:((backTo cH (starEach (e :: es) X.env)).all (fun x=>!x.1) && (backToKw cH (keywordEach [] X.env)).all (fun x=>x.1.isSome)
     && decide ((e :: es).length + ([]:List Keyword).length + (if ([]:List Keyword).isEmpty then 0 else 1) < 30)) = true:=by rfl)
    (fY:(apos.endLine == cH.line) = true:=by rfl) (h1:isStar e = false:=by rfl) (h2:noStar es = true:=by rfl) :
    BE X (.Call (.Attribute o "join" apos) (e :: es) [] cH) (DP X.K "str" (rJoin X.K) to t) :=
 ⟨nU F.plainAttrs_str F.slot_str_join F.type_str_join E5 ho.h ha.h gc j4 fY (aN h1) (cJ h2)⟩
theorem kI (ho : BE X o to) (ha : BA X (e :: es) t) (gc : attributeBase o "partition" X.env (eval o X.env) = eval o X.env := by rfl)
    (j4:((backTo cH (starEach (e :: es) X.env)).all (fun x=>!x.1) && (backToKw cH (keywordEach [] X.env)).all (fun x=>x.1.isSome)
     && decide ((e :: es).length + ([]:List Keyword).length + (if ([]:List Keyword).isEmpty then 0 else 1) < 30)) = true:=by rfl)
    (fY:(apos.endLine == cH.line) = true:=by rfl) (h1:isStar e = false:=by rfl) (h2:noStar es = true:=by rfl) :
    BE X (.Call (.Attribute o "partition" apos) (e :: es) [] cH) (DP X.K "str" Gv to t) :=
 ⟨nU F.plainAttrs_str F.slot_str_partition F.type_str_partition E4 ho.h ha.h gc j4 fY (aN h1) (cJ h2)⟩
abbrev TJ:=St->Hp->Str->(Str->Hp->Prop)->Prop
structure BJ (X:Cx) (es:List Expr) (t:TJ):Prop where
 h:∀ (pins:List (Addr × Obj)) (s:Shared) (σ:St) (H:Hp) (out:Str) (Q:Str->Hp->Prop),Inv X pins σ H s->t σ H out Q->wpAny (model X.prog X.w) X.A (joinParts out (evalEach es X.env)) (fun u s'=>∃ z H',Inv X pins σ H' s'/\RelV (.str z) u/\Q z H') X.xe s
def LG:TJ:=fun _ H out Q=>out.length <= sizeLine/\Q out H
def GI (te:TE) (t:TJ):TJ:=fun σ H out Q=>te σ H fun x H1=>∃ y,x = .str y/\(out ++ y).length <= sizeLine/\t σ H1 (out ++ y) Q
theorem oV:BJ X [] LG:=⟨fun pins s σ H out Q I h=>joinParts_nil (s:=s) ⟨out,H,I.tok _,⟨_,rfl⟩,h.2⟩ h.1⟩
theorem eK {t:TJ} (h1:BE X e te) (h2:BJ X es t):BJ X (e :: es) (GI te t):=⟨fun pins s σ H out Q I h=>by
 refine joinParts_cons (cz (h1.h pins s σ H _ I h) fun v s1 ⟨x,H1,I1,r1,y,ex,hz,q⟩=>?_)
 subst ex;obtain ⟨tk,rfl⟩:=r1;exact ⟨hz,h2.h pins s1 σ H1 (out ++ y) Q I1 q⟩⟩
def YJ (t:TJ):TE:=fun σ H Q=>t σ H Str.empty fun z H1=>Q (.str z) H1
theorem oY {e2:Expr} {t:TJ} (h:BJ X (e :: e2 :: es) t):BE X (.JoinedStr (e :: e2 :: es) pos) (YJ t):=⟨fun pins s σ H Q I q=>JoinedStr_many (cz (h.h pins s σ H Str.empty _ I q) fun u s1 ⟨z,H1,I1,r,q⟩=>⟨.str z,H1,I1,r,q⟩)⟩
def KJ (te:TE):TE:=fun σ H Q=>te σ H fun x H1=>(∃ i,x = .int i/\i.natAbs.log2 < 1920/\Q (.str (toString i)) H1) \/ ∃ z,x = .str z/\z.length <= sizeLine/\Q (.str z) H1
theorem vO (h:BE X e te):BE X (.FormattedValue e (-1) none pos) (KJ te):=⟨fun pins s σ H Q I q=>by
 refine FormattedValue_plain (cz (h.h pins s σ H _ I q) fun v s1 ⟨x,H1,I1,r1,q⟩=>?_)
 rcases q with ⟨i,rfl,hz,q⟩ | ⟨z,rfl,hz,q⟩
 ·obtain ⟨tk,rfl⟩:=r1;exact wpAny_formatField_int hz ⟨.str _,H1,I1.tok _,⟨_,rfl⟩,q⟩
 ·obtain ⟨tk,rfl⟩:=r1;exact formatField_str (fun t' tk'=>⟨.str z,H1,I1.tok _,⟨_,rfl⟩,q⟩) hz⟩
end
end L2
namespace L2
open PySem PySem.Spec PyProof.Rows
open PySem.SeqAt
open PySem.AutoSeq1 (wpAny_loadPart')
open PySem.MeetsSeq PySem.MeetsSeq2 PySem.MeetsSeq3
end L2
namespace L2
open PySem PySem.Spec PyProof.Rows
variable {K:W.Frag} {σ:St} {H:Hp} {Q:VK} {ix ds:List Nat} {te to:TE} {xs:List V} {n c k:Nat} {X:Cx} {x y z:Str} {pos apos cH p2:Pos} {tt:TT} {o e:Expr} {es:List Expr} {t:TA} {i:Int}
section
theorem Jf {a : Addr} (W : Nat -> List V -> Hp -> Prop) (hz : xs.length <= sizeLine) (h0 : W 0 [] H) (hl : ∀ i ys H', W i ys H' -> SqL K H' a xs /\ ys.length = i)
    (hE:∀ i v ys H',xs[i]? = some v->W i ys H'->te (some v :: pick ix σ) H' fun y H5=>W (i + 1) (ys ++ [y]) H5)
    (hQ:∀ ys p H' H1,W xs.length ys H'->H' p = none->Same H' H1->H1 p = some (.lst ys)->Q (.ref p) H1):Au (FR K a) ix σ tP te Q H:=by
 refine ⟨fun i m ys H2=>m = xs.length - i/\i <= xs.length/\W i ys H2,⟨xs.length,by simp,Nat.zero_le _,h0⟩,?_⟩
 rintro i m ys H2 ⟨rfl,hi,w⟩;obtain ⟨q,e⟩:=hl i ys H2 w
 by_cases ed:i < xs.length
 ·refine .inr ⟨⟨xs,_,q,List.getElem?_eq_getElem ed⟩,by omega,fun x H3 y=>?_⟩
  obtain ⟨rfl,y⟩:=y;show te _ _ _;rw [show (fun y H5=>∃ m',m' < xs.length - i/\m' = xs.length - (i + 1)/\i + 1 <= xs.length/\W (i + 1) (ys ++ [y]) H5) = fun y H5=>W (i + 1) (ys ++ [y]) H5 from ?_]
  ·exact hE i x ys _ (y xs q) w
  ·funext y H5
   apply propext;exact ⟨fun ⟨m',_,_,_,h⟩=>h,fun h=>⟨xs.length - (i + 1),by omega,rfl,ed,h⟩⟩
 ·have:i = xs.length:=by omega
  subst this;exact .inl ⟨⟨xs,q,Nat.le_refl _⟩,fun D hD=>hQ ys D H2 _ w hD (aU hD) aE⟩
theorem SQ {lo : Int} (W : Nat -> List V -> Hp -> Prop) (hz : n <= sizeLine) (h0 : W 0 [] H) (hl : ∀ i ys H', W i ys H' -> ys.length = i)
    (hE:∀ i ys H',i < n->W i ys H'->te (some (.int (lo + i)) :: pick ix σ) H' fun y H5=>W (i + 1) (ys ++ [y]) H5)
    (hQ:∀ ys p H' H1,W n ys H'->H' p = none->Same H' H1->H1 p = some (.lst ys)->Q (.ref p) H1):Au (Av lo n) ix σ tP te Q H:=by
 refine ⟨fun i m ys H2=>m = n - i/\i <= n/\W i ys H2,⟨n,by simp,Nat.zero_le _,h0⟩,?_⟩
 rintro i m ys H2 ⟨rfl,hi,w⟩;have e:=hl i ys H2 w
 by_cases ed:i < n
 ·refine .inr ⟨ed,by omega,fun x H3 y=>?_⟩;obtain ⟨rfl,rfl⟩:=y;show te _ _ _;rw [show (fun y H5=>∃ m',m' < n - i/\m' = n - (i + 1)/\i + 1 <= n/\W (i + 1) (ys ++ [y]) H5) = fun y H5=>W (i + 1) (ys ++ [y]) H5 from ?_]
  ·exact hE i ys _ ed w
  ·funext y H5
   apply propext;exact ⟨fun ⟨m',_,_,_,h⟩=>h,fun h=>⟨n - (i + 1),by omega,rfl,ed,h⟩⟩
 ·have:i = n:=by omega
  subst this;exact .inl ⟨by show _ <= _;omega,fun D hD=>hQ ys D H2 _ w hD (aU hD) aE⟩
theorem join_one:∀ cs:List Nat,Txt.join (Str.ofString "") (cs.map fun c=>(⟨#[c]⟩:Str)) = ⟨cs.toArray⟩:=by
 intro cs;refine (StrLaws.glued_eq_join _ _).trans ?_
 induction cs with
 | nil=>rfl
 | cons c cs ih =>
  cases cs with
  | nil=>rfl
  | cons d ds =>
   rw [List.map_cons] at ih;rw [List.map_cons,List.map_cons];show (⟨#[c]⟩ ++ Str.ofString "" ++ Str.join (Str.ofString "") ((⟨#[d]⟩:Str) :: ds.map fun d=>(⟨#[d]⟩:Str)):Str) = _
   rw [ih];have e:∀ x y:Str,x.cps.toList = y.cps.toList->x = y:=fun x y h=>by
    cases x;cases y
    congr 1
    exact Array.ext' h
   refine e _ _ ?_;rw [app_list,app_list];simp
   rfl
theorem DU (cs:List Nat):((cs.map fun c=>(⟨#[c]⟩:Str)).map (·.length)).sum = cs.length:=by
 induction cs with
 | nil=>rfl
 | cons c cs ih =>
  rw [List.map_cons,List.map_cons,List.sum_cons,ih,List.length_cons];show 1 + cs.length = _;omega
end
section
def BD (K:W.Frag):List V->Hp->VK->Prop:=fun xs H Q=>∃ p ys,xs = [.ref p]/\((SqL K H p ys/\∀ l,H l = none->Q (.ref l) (upd H l (.tup ys))) \/ (SqT K H p ys/\Q (.ref p) H))
theorem yK:cN X (.type "tuple") (BD X.K):=p7
theorem qz {p:Addr} {ys:List V} (e:SqL K H p ys) (h:∀ l H1,H l = none->Same H H1->H1 l = some (.tup ys)->Q (.ref l) H1):BD K [.ref p] H Q:=⟨p,ys,rfl,.inl ⟨e,fun l hl=>h l _ hl (aU hl) aE⟩⟩
theorem rM (len:Nat) (d:Nat) (h:n <= len):HT.sIx len d (some (n:Int)) = n:=by
 unfold HT.sIx;simp only;rw [if_neg (by omega)];omega
theorem FC (xs:List V) (h:n <= xs.length):kH xs none (some (n:Int)) = xs.take n:=by
 unfold kH;rw [rM _ _ h,show HT.sIx xs.length 0 none = 0 from rfl,List.drop_zero,Nat.sub_zero]
theorem Ad (xs:List V) (h:n <= xs.length):kH xs (some (n:Int)) none = xs.drop n:=by
 unfold kH;rw [rM _ _ h,show HT.sIx xs.length xs.length none = xs.length from rfl];exact List.take_of_length_le (by rw [List.length_drop];omega)
end
section
variable {scope:Scope} {fv:List Str}
theorem BQ {iy : Nat} {py yX : Pos} {elt iter : Expr} {ifs : List Expr} {px : Pos} {wi : TI} {osc : Scope} (hc : X.calm = true) (S₀ : LcScope scope x fv osc) (DH : ix.map (fun i => X.N[i]?) = fv.map some) (hi : PI X (.Name x px) iter wi)
    (ht:∀ (C:Addr) (s₀:Shared) (H₀:Hp) (ex:List Addr),Dv (X.comp scope (x :: fv) C s₀ H₀ ex) ifs tt)
    (he:∀ (C:Addr) (s₀:Shared) (H₀:Hp) (ex:List Addr),PE (X.comp scope (x :: fv) C s₀ H₀ ex) elt te)
    (hN:X.N.Nodup) (Ub:X.N[iy]? = some y) (Jr:Loc X.env.scope y) (Ui:swapsWith (.ListComp elt [⟨.Name x px,iter,ifs,0⟩] scope pos) (some (.Name y py)) yX.line X.env = pure true) (hf:X.fn y = true \/ X.env.scope.names.lookup y = some .local:=by first | exact .inl rfl | exact .inr rfl | assumption)
    (xB:X.env.scope = osc:=by rfl) (hs:∀ x,foldedSetIterable iter X.env x = pure x:=by intro _;rfl):PS X (.Assign [.Name y py] (.ListComp elt [⟨.Name x px,iter,ifs,0⟩] scope pos) yX) (AQ (KI ix wi tt te) (oG iy)):=by
 have S:LcScope scope x fv X.env.scope:=xB ▸ S₀;intro pins s σ H D0 I h;rw [exec_Assign_Name_used y py _ yX Ui];refine wpAny_bind (wpAny_standAt (wpAny_bind ?_));unfold evalThenUse;refine wpAny_bind ?_;refine wpAny_comprehension_free (use:=some (assign (.Name y py) X.env)) (cl:=ja scope X.env) rfl hs (jL (S.cells I.ok)) S.kind S.names ?_;refine cz (hi pins s σ H _ I h) fun v s1 h1=>cz h1 fun NU s2 h2=>?_
 obtain ⟨it,fp,tn,J,H2,e,I2,T,DY,f2,W,⟨m0,w0⟩,turn⟩:=h2;subst e;have fl:∀ b ∈ fp,b < s2.heap.objs.size:=fun b hb=>by obtain ⟨o,e,_⟩:=T.obj _ _ DY b hb;exact Heap.lt_size e
 refine wpAny_newObj_type (wpAny_newFunctionEnv S.nocell (by intro y hy;simp at hy) (fun h₁ iA fX=>?_) S.kind);dsimp only at iA fX ⊢;generalize JH:s2.heap.push { cls:=.type "list",dict:=none,data:=.seq ([]:List Value).toArray } = yw at iA fX ⊢;have hCe:yw.objs.size = s2.heap.objs.size + 1:=by rw [<- JH,Heap.size_push]
 generalize hCC:yw.objs.size = C at iA fX ⊢;generalize Fv:s2.heap.objs.size = D at *;have GV:D ≠ C:=by omega
 have hD:s2.heap.objs.size <= D:=by omega
 have hC:s2.heap.objs.size <= C:=by omega
 have Lx:∀ b:Nat,b < s2.heap.objs.size->b ≠ C:=fun b hb=>by omega
 have Lw:∀ b:Nat,b < s2.heap.objs.size->b ≠ D:=fun b hb=>by omega
 have old:∀ b o,s2.heap.get? b = some o->h₁.get? b = some o:=fun b o e=>fX.extBut b o (Lx b (Heap.lt_size e)) (Heap.get?_push_of_some _ (JH ▸ Heap.get?_push_of_some _ e))
 have CU:h₁.get? D = some (lobj [] 0):=fX.extBut _ _ GV (Heap.get?_push_of_some _ (JH ▸ Fv ▸ Heap.get?_push_size _ rfl));have FX:tn 0 h₁:=T.keep _ _ _ DY fun b _ o e=>old b o e
 have I3:Inv (X.comp scope (x :: fv) C s2 H2 fp) [(D,lobj [] 0)] (none :: pick ix σ) H2 { s2 with heap:=h₁,toks:=s2.toks + ([]:List (Str × Value)).length }:=oS S DH I2 hD GV hC f2 (fun b hb=>Fv.symm ▸ fl b hb) iA old CU
 have JI:∀ b ∈ fp,b ≠ D:=fun b hb=>Lw b (Fv.symm ▸ fl b hb)
 have qM:=S.cells I2.ok;have nB:∀ {H':Hp} {its:List Value} {n:Nat},(∀ b ∈ fp,H' b = none)->∀ b ∈ fp,FpOk (X.comp scope (x :: fv) C s2 H2 fp) [(D,lobj its n)] H' b:=fun {H' its n} hn b hb=>by
  obtain ⟨_,g1,g2,g3,g4,g5⟩:=f2 b hb;refine ⟨hn b hb,(Lx b (Fv.symm ▸ fl b hb)),fun z=>?_,.inl hb,fun y c h1=>g4 y c (dq qM h1),fun p hp=>?_⟩
  ·rcases List.mem_cons.mp (I2.stkSub b z) with z | z
   ·exact g1 z
   ·exact g2 z
  ·have vi:p = (D,lobj its n):=by simpa [Cx.comp] using hp
   rw [vi];exact (JI b hb).symm
 have loop : ∀ s3 : Shared, s3 = { s2 with heap := h₁, toks := s2.toks + ([] : List (Str × Value)).length } ->
     codeAny (model X.prog X.w) X.A (.compLoop (.ListComp elt [⟨.Name x px,iter,ifs,0⟩] scope pos) 0 (.ref it) (.ref D) (compEnvC scope (ja scope X.env) C X.env))
      (compPost (model X.prog X.w) X.A X.xe (some (assign (.Name y py) X.env)) (fun _ s6=>wpAny (model X.prog X.w) X.A (pure ()) (fun _ s7=>wpAny (model X.prog X.w) X.A (pure Flow.next) (SP X pins D0) X.xe s7) X.xe s6) (.ref D) C) s3:=by
  rintro s3 rfl;refine eV (fun n s'=>∃ i ys its k H' o',Inv (X.comp scope (x :: fv) C s2 H2 fp) [(D,lobj its k)] (o' :: pick ix σ) H' s'/\tn i s'.heap/\(∀ b ∈ fp,H' b = none)/\Vals ys its/\ys.length <= sizeLine/\W i n ys H') ?_ m0
   ⟨0,[],[],0,H2,none,I3,FX,fun b hb=>(f2 b hb).1,.nil,Nat.zero_le _,w0⟩
  rintro n s4 ⟨i,ys,its,k,H4,o4,I4,KL,Mq,Ea,LO,w4⟩
  rcases turn i n ys H4 w4 with ⟨stop,q⟩ | ⟨go,ed,step⟩
  ·refine cz (T.done (X.comp scope (x :: fv) C s2 H2 fp) rfl rfl rfl hc i _ s4 _ H4 _ I4 (nB Mq) KL stop) fun r s5 ⟨hr,I5⟩=>?_
   subst hr;obtain ⟨m5,LW,_⟩:=id I5.loc;obtain ⟨I6,nD⟩:=vD I2 hD hC f2 I5 (h':=s5.heap) ⟨rfl,fun _ _=>rfl⟩ Ea LO;have fC:FpOk X pins (upd H4 D (.lst ys)) C:=I2.fpOk hC (by rw [aD (Ne.symm GV)];exact I5.free);refine wpAny_assign_Name (qh I6 hN Ub Jr (v:=.ref D) rfl (fun s7 I7 ⟨aa,sb7,ha⟩=>?_) hf);have hCa:C ≠ aa:=by
    rcases ha with rfl | ha
    ·exact fC.2.1
    ·exact (fC.2.2.2.2.1 _ _ ha).symm
   obtain ⟨on,es,ep,ho,rn⟩:=LW;refine ⟨m5,⟨on,es,ep,(sb7.2 C hCa).trans ho,rn⟩,fun h8 hs8=>?_⟩
   have I8:Inv X pins (σ.set iy (some (.ref D))) (upd H4 D (.lst ys)) { s7 with heap:=h8 }:=I7.turned (t':=s7.toks) (it:=C) (fun b o hb e=>(hs8.2 b hb).trans e) fC.1 fC.2.1 fC.2.2.2.1 fC.2.2.2.2.1 fC.2.2.2.2.2
   exact wpAny_pure (wpAny_pure ⟨_,_,I8,q D nD⟩)
  ·refine cz (T.item (X.comp scope (x :: fv) C s2 H2 fp) rfl rfl rfl hc i _ s4 _ H4 _ I4 (nB Mq) KL go) fun r s5 ⟨u,hr,h5⟩=>?_
   subst hr;refine cz h5 fun _ s6 ⟨xv,H6,I6,r6,y6,AX,U0⟩=>?_
   have YG:=I6.pinned (nB U0) (T.obj _ _ AX);refine wpAny_assign_Name (iK (i:=0) YG S.nd rfl (.inl (lookup_relabel_local S.tgt)) r6 (fun s7 I7=>?_) (.inr (lookup_relabel_local S.tgt)))
   refine cz (ht C s2 H2 fp _ s7 _ H6 _ I7 (step xv H6 y6)) fun b s8 ⟨H8,I8,q8⟩=>?_
   have kB:∀ {H9:Hp} {σ9:St} {s9:Shared} (I9:Inv (X.comp scope (x :: fv) C s2 H2 fp) ([(D,lobj its k)] ++ fe fp s6.heap) σ9 H9 s9),(∀ b ∈ fp,∀ o,s6.heap.get? b = some o->s9.heap.get? b = some o/\H9 b = none):=fun {H9 σ9 s9} I9 b hb o e =>
    ⟨(I9.pin (b,o) (List.mem_append_right _ (List.mem_append_right _ (eE hb e)))).1,(I9.pin (b,o) (List.mem_append_right _ (List.mem_append_right _ (eE hb e)))).2.1⟩
   cases b with
   | false =>
    rw [if_neg Bool.false_ne_true] at q8 ⊢;obtain ⟨m',hm,w8⟩:=q8;refine ⟨m',hm,i + 1,ys,its,k,H8,some xv,I8.unpinned,T.keep _ _ _ AX fun b hb o e=>(kB I8 b hb o e).1,fun b hb=>?_,Ea,LO,w8⟩;obtain ⟨o,e,_⟩:=T.obj _ _ AX b hb;exact (kB I8 b hb o e).2
   | true =>
    rw [if_pos rfl] at q8 ⊢;refine cz (he C s2 H2 fp _ s8 _ H8 _ I8 q8) fun y s9 ⟨yv,H9,I9,r9,q9⟩=>?_
    obtain ⟨m',hm,w9⟩:=q9;obtain ⟨eD,nD,IZ,NQ,_⟩:=I9.pin (D,lobj its k) (by simp [Cx.comp]);have hlen:=Ea.length;refine wpAny_list_append_plain (items:=its.toArray) ⟨k,eD⟩ (fun Ml Jx CL=>?_) (by rw [List.size_toArray];omega)
    obtain ⟨k',VW⟩:=Jx;have J9:Inv (X.comp scope (x :: fv) C s2 H2 fp) (fe fp s6.heap) (some xv :: pick ix σ) H9 s9:=I9.pins_of fun p hp=>I9.pin p (List.mem_append_right _ (List.mem_append_right _ hp))
    have YF:Inv (X.comp scope (x :: fv) C s2 H2 fp) (fe fp s6.heap) (some xv :: pick ix σ) H9 { s9 with heap:=Ml } :=
     J9.turned (t':=s9.toks) (it:=D) (fun b o hb e=>(CL.2 b hb).trans e) nD IZ (.inr hD) (fun y c h1 z=>by
      obtain ⟨_,o,ho,_⟩:=I2.cell y c (dq qM h1);exact Lw c (Heap.lt_size ho) z) (fun p hp z=>by
      obtain ⟨hb,_⟩:=lF (show p ∈ fe fp s6.heap by simpa [Cx.comp] using hp);exact JI p.1 hb z)
    have JK:Ml.get? D = some (lobj (its ++ [y]) k'):=by
     rw [VW];simp [lobj]
    refine ⟨m',hm,i + 1,ys ++ [yv],its ++ [y],k',H9,some xv,YF.pins_of fun p hp=>?_,T.keep _ _ _ AX fun b hb o e=>(CL.2 b (JI b hb)).trans (kB I9 b hb o e).1,fun b hb=>?_,Ea.append (.cons r9 .nil),?_,w9⟩
    ·have vi:p = (D,lobj (its ++ [y]) k'):=by simpa using hp
     subst vi;exact ⟨JK,nD,IZ,NQ,fun v z=>by have z':Data.seq _ _ = Data.cell v:=z;cases z'⟩
    ·obtain ⟨o,e,_⟩:=T.obj _ _ AX b hb;exact (kB I9 b hb o e).2
    ·rw [List.length_append,List.length_singleton];omega
 exact codeAny_compStart_list (loop _ rfl) (T.self _ 0 _ _ _ FX (loop _ rfl))
variable {iy:Nat} {py px yX:Pos} {elt iter:Expr} {ifs:List Expr} {osc:Scope} {wi:TI}
theorem Dj (hc : X.calm = true) (S₀ : LcScope scope x fv osc) (DH : ix.map (fun i => X.N[i]?) = fv.map some) (hi : BI X (.Name x px) iter wi)
    (ht:∀ (C:Addr) (s₀:Shared) (H₀:Hp) (ex:List Addr),BF (X.comp scope (x :: fv) C s₀ H₀ ex) ifs tt) (he:∀ (C:Addr) (s₀:Shared) (H₀:Hp) (ex:List Addr),BE (X.comp scope (x :: fv) C s₀ H₀ ex) elt te)
    (hN:X.N.Nodup) (Ub:X.N[iy]? = some y) (Jr:Loc X.env.scope y) (Ui:swapsWith (.ListComp elt [⟨.Name x px,iter,ifs,0⟩] scope pos) (some (.Name y py)) yX.line X.env = pure true:=by rfl) (hf:X.fn y = true \/ X.env.scope.names.lookup y = some .local:=by first | exact .inl rfl | exact .inr rfl | assumption)
    (xB:X.env.scope = osc:=by rfl) (hs:∀ x,foldedSetIterable iter X.env x = pure x:=by intro _;rfl):BS X (.Assign [.Name y py] (.ListComp elt [⟨.Name x px,iter,ifs,0⟩] scope pos) yX) (AQ (KI ix wi tt te) (oG iy)) :=
 ⟨BQ hc S₀ DH hi.h (fun C s₀ H₀ ex=>(ht C s₀ H₀ ex).h) (fun C s₀ H₀ ex=>(he C s₀ H₀ ex).h) hN Ub Jr Ui hf xB hs⟩
end
section
def wV:V->List V->Hp->VK->Prop:=fun x vs H Q=>∃ z i,x = .str z/\vs = [.int i]/\PadOk i = true/\Q (.str (Txt.zfill z i)) H
theorem Ct:J7 X "str.zfill" wV:=by
 intro pins s σ H x vs v us Q I rx rv h;obtain ⟨z,i,rfl,rfl,hi,q⟩:=h;obtain ⟨t,rfl⟩:=rx;obtain ⟨u,rfl,t',rfl⟩:=rv.one;exact SC.zfill hi fun t' k=>⟨.str (Txt.zfill z i),H,I.tok _,⟨_,rfl⟩,q⟩
theorem Bs (hi:PadOk i = true) (h:Q (.str (Txt.zfill z i)) H):wV (.str z) [.int i] H Q:=⟨z,i,rfl,rfl,hi,h⟩
def rQ:V->List V->Hp->VK->Prop:=fun x vs H Q=>∃ z y,x = .str z/\vs = [.str y]/\Q (.bl (Txt.startswith z y)) H
theorem zB:J7 X "str.startswith" rQ:=by
 intro pins s σ H x vs v us Q I rx rv h;obtain ⟨z,y,rfl,rfl,q⟩:=h;obtain ⟨t,rfl⟩:=rx;obtain ⟨u,rfl,t',rfl⟩:=rv.one;exact SC.startswith ⟨.bl (Txt.startswith z y),H,I,rfl,q⟩
theorem lx (h:Q (.bl (Txt.startswith z y)) H):rQ (.str z) [.str y] H Q:=⟨z,y,rfl,rfl,h⟩
theorem Dl (ho : BE X o to) (ha : BA X (e :: es) t) (gc : attributeBase o "zfill" X.env (eval o X.env) = eval o X.env := by rfl)
    (j4:((backTo cH (starEach (e :: es) X.env)).all (fun x=>!x.1) && (backToKw cH (keywordEach [] X.env)).all (fun x=>x.1.isSome)
     && decide ((e :: es).length + ([]:List Keyword).length + (if ([]:List Keyword).isEmpty then 0 else 1) < 30)) = true:=by rfl)
    (fY:(apos.endLine == cH.line) = true:=by rfl) (h1:isStar e = false:=by rfl) (h2:noStar es = true:=by rfl) :
    BE X (.Call (.Attribute o "zfill" apos) (e :: es) [] cH) (DP X.K "str" wV to t) :=
 ⟨nU F.plainAttrs_str F.slot_str_zfill F.type_str_zfill Ct ho.h ha.h gc j4 fY (aN h1) (cJ h2)⟩
theorem gJ (ho : BE X o to) (ha : BA X (e :: es) t) (gc : attributeBase o "startswith" X.env (eval o X.env) = eval o X.env := by rfl)
    (j4:((backTo cH (starEach (e :: es) X.env)).all (fun x=>!x.1) && (backToKw cH (keywordEach [] X.env)).all (fun x=>x.1.isSome)
     && decide ((e :: es).length + ([]:List Keyword).length + (if ([]:List Keyword).isEmpty then 0 else 1) < 30)) = true:=by rfl)
    (fY:(apos.endLine == cH.line) = true:=by rfl) (h1:isStar e = false:=by rfl) (h2:noStar es = true:=by rfl) :
    BE X (.Call (.Attribute o "startswith" apos) (e :: es) [] cH) (DP X.K "str" rQ to t) :=
 ⟨nU F.plainAttrs_str F.slot_str_startswith F.type_str_startswith zB ho.h ha.h gc j4 fY (aN h1) (cJ h2)⟩
end
section
variable {t:TJ} {out:Str} {F:Str->Hp->Prop}
instance z1:bK (YJ t σ H Q) (t σ H Str.empty fun z H1=>Q (.str z) H1):=⟨id⟩
instance z2:bK (GI te t σ H out F) (te σ H fun x H1=>∃ y,x = .str y/\(out ++ y).length <= sizeLine/\t σ H1 (out ++ y) F):=⟨id⟩
instance z3:bK (KJ te σ H Q) (te σ H fun x H1=>(∃ i,x = .int i/\i.natAbs.log2 < 1920/\Q (.str (toString i)) H1) \/ ∃ z,x = .str z/\z.length <= sizeLine/\Q (.str z) H1):=⟨id⟩
theorem uv (hz:out.length <= sizeLine) (h:F out H):LG σ H out F:=⟨hz,h⟩
end
def val:List Nat->Int
 | []=>0
 | d :: ds=>d + 16 * val ds
def okF (ds:List Nat):Prop:=∀ d ∈ ds,d < 16
theorem okF.take (h:okF ds) (n:Nat):okF (ds.take n):=fun d hd=>h d (List.mem_of_mem_take hd)
theorem okF.drop (h:okF ds) (n:Nat):okF (ds.drop n):=fun d hd=>h d (List.mem_of_mem_drop hd)
theorem kR:∀ {ds:List Nat},okF ds->0 <= val ds/\val ds < 16 ^ ds.length
 | [],_=>by simp [val]
 | d :: ds,h=>by
  have ih:=kR (ds:=ds) fun x hx=>h x (List.mem_cons_of_mem _ hx)
  have hd:=h d List.mem_cons_self;simp only [val,List.length_cons];rw [Int.pow_succ];omega
theorem ji:∀ (ds:List Nat) (n:Nat),n <= ds.length->val ds = val (ds.take n) + 16 ^ n * val (ds.drop n)
 | ds,0,_=>by simp [val]
 | [],n + 1,h=>by simp at h
 | d :: ds,n + 1,h=>by
  have ih:=ji ds n (by simpa using h);rw [List.take_succ_cons,List.drop_succ_cons];simp only [val];rw [ih,Int.pow_succ,Int.mul_add,Int.add_assoc]
  congr 2
  rw [Int.mul_comm (16 ^ n) 16,Int.mul_assoc]
theorem Ax (h:okF ds) (hn:n <= ds.length):val ds / 16 ^ n = val (ds.drop n):=by
 have hb:=kR (h.take n);rw [List.length_take,Nat.min_eq_left hn] at hb;have hp:(0:Int) < 16 ^ n:=Int.pow_pos (by decide);rw [ji ds n hn,Int.add_mul_ediv_left _ _ (Int.ne_of_gt hp),Int.ediv_eq_zero_of_lt hb.1 hb.2,Int.zero_add]
theorem DK (hn:n <= ds.length):val ds - val (ds.drop n) * 16 ^ n = val (ds.take n):=by
 rw [ji ds n hn,Int.mul_comm (val (ds.drop n))];omega
theorem AA (n:Nat):(2:Int) ^ (4 * (n:Int)).toNat = 16 ^ n:=by
 rw [show (4 * (n:Int)).toNat = 4 * n by omega,Int.pow_mul]
 rfl
theorem Be (h:okF ds) (h1:ds.length <= 2000) (h2:n <= 2000):FU (val ds) (4 * (n:Int)):=by
 have hb:=kR h;refine ⟨by omega,?_⟩;have ed:(val ds).natAbs < 2 ^ (4 * ds.length):=by
  have e:((16:Int) ^ ds.length) = ((2 ^ (4 * ds.length):Nat):Int):=by
   rw [Nat.pow_mul];simp
  rw [e] at hb;omega
 have hk:Builtin.Int.intBits (val ds) <= 4 * ds.length:=by
  exact intBits_le ed
 have:(2:Int) ^ 27 = 134217728:=by decide
 omega
def sg (ds:List Nat):Str:=⟨(ds.map (97 + ·)).toArray⟩
theorem eI (ds:List Nat):(sg ds).cps.toList = ds.map (97 + ·):=by simp [sg]
theorem e9 (ds:List Nat):(sg ds).length = ds.length:=by rw [len_list,eI,List.length_map]
theorem bp (h:x.cps.toList = y.cps.toList):x = y:=by
 cases x;cases y
 congr 1
 exact Array.ext' h
theorem Hz (a b:List Nat):sg a ++ sg b = sg (a ++ b):=bp (by rw [app_list,eI,eI,eI,List.map_append])
theorem KS (h:n <= ds.length):Txt.slice (sg ds) none (some (n:Int)) = sg (ds.take n):=bp (by
 rw [ud (by omega) (by rw [e9];omega),eI,eI,List.map_take]
 rfl)
theorem D8 (h:n <= ds.length):Txt.slice (sg ds) (some (n:Int)) none = sg (ds.drop n):=bp (by
 rw [jT (by omega) (by rw [e9];omega),eI,eI,List.map_drop]
 rfl)
def mT:Str:="abcdefghijklmnop"
theorem D7:∀ d:Nat,d < 16->mS mT.cps.toList (d:Int) = some (97 + d):=by decide +kernel
theorem D5:∀ d:Nat,d < 16->Builtin.Str.occurrences mT ⟨#[97 + d]⟩ 0 mT.length 1 = [d]:=by decide +kernel
theorem D6:∀ d:Nat,d < 16->(!(Builtin.Str.occurrences mT ⟨#[97 + d]⟩ 0 mT.length 1).isEmpty) = true:=by decide +kernel
theorem uf:mT.length = 16:=by decide +kernel
def G6:Str:="0123456789"
theorem figs:∀ k:Nat,k < 501->1 <= k->(∀ c ∈ (Str.ofString (toString ((8 * k:Nat):Int))).cps.toList,(!(Builtin.Str.occurrences G6 ⟨#[c]⟩ 0 G6.length 1).isEmpty) = true/\c ≠ 58)/\(Str.ofString (toString ((8 * k:Nat):Int))).length <= 6/\1 <= (Str.ofString (toString ((8 * k:Nat):Int))).length/\mS (Str.ofString (toString ((8 * k:Nat):Int))).cps.toList 0 ≠ some 48/\((8 * k:Nat):Int).natAbs.log2 < 1920:=by decide +kernel
theorem jK {c:Nat}:∀ {a b:List Nat},c ∉ a->(a ++ c :: b).dropWhile (· != c) = c :: b
 | [],b,_=>by simp [List.dropWhile]
 | x :: a,b,h=>by
  have hx:x ≠ c:=fun e=>h (by rw [e];exact List.mem_cons_self)
  have:=jK (a:=a) (b:=b) fun z=>h (List.mem_cons_of_mem _ z)
  simp only [List.cons_append,List.dropWhile,bne_iff_ne.mpr hx,this]
theorem uA {a b:List Nat} (hx:x.cps.toList = a ++ c :: b) (ha:c ∉ a):(Txt.partition x ⟨#[c]⟩).1 = ⟨a.toArray⟩/\(Txt.partition x ⟨#[c]⟩).2.2 = ⟨b.toArray⟩:=by
 have hne:(Builtin.Str.occurrences x ⟨#[c]⟩ 0 x.length 1).isEmpty = false:=by
  rw [empty_one,hx,decide_eq_true (by simp)]
  rfl
 have h1:=eq_of_beq (from_first_some (x:=x) (y:=⟨#[c]⟩) (z:=⟨#[c]⟩) rfl rfl hne);rw [hx,jK ha] at h1;have h2:(Txt.partition x ⟨#[c]⟩).2.2.cps.toList = b:=by
  have:=congrArg (fun z:Str=>z.cps.toList) h1
  rw [app_list] at this;simpa using this
 have h3:(Txt.partition x ⟨#[c]⟩).2.1 = ⟨#[c]⟩:=by
  unfold Txt.partition
  cases ho:Builtin.Str.occurrences x ⟨#[c]⟩ 0 x.length 1 with
  | nil=>rw [ho] at hne;cases hne
  | cons i r=>rfl
 have h4:=congrArg (fun z:Str=>z.cps.toList) (StrLaws.partition_sum x ⟨#[c]⟩)
 rw [app_list,app_list,h3,h2,hx] at h4;refine ⟨bp ?_,bp h2⟩;have h5:(Txt.partition x ⟨#[c]⟩).1.cps.toList ++ (c :: b) = a ++ c :: b:=by simpa using h4
 exact List.append_cancel_right h5
def jI (c:Nat):Bool:=decide (48 <= c/\c <= 57)
theorem CY (c:Nat):(!(Builtin.Str.occurrences G6 ⟨#[c]⟩ 0 G6.length 1).isEmpty) = jI c:=by
 rw [empty_one,Bool.not_not];have:G6.cps.toList = [48,49,50,51,52,53,54,55,56,57]:=by decide +kernel
 rw [this];unfold jI;refine decide_eq_decide.mpr ?_;simp only [List.mem_cons,List.not_mem_nil,or_false];omega
def iB (z:Str):Bool:=decide (z ≠ Str.ofString "") && z.cps.toList.all jI
theorem yW:z = Str.ofString "" ↔ z.cps.toList = []:=by
 constructor
 ·rintro rfl;rfl
 ·intro h;exact bp (by rw [h];rfl)
theorem oI:iB z = true ↔ z.cps.toList ≠ []/\NumText.AllDigits z.cps.toList:=by
 unfold iB NumText.AllDigits jI;rw [Bool.and_eq_true,List.all_eq_true,decide_eq_true_iff,Ne,yW];simp only [decide_eq_true_eq,Ne]
def numM (z:Str):Nat:=NumText.digitsVal z.cps.toList
theorem jv (h:iB z = true) (hl:z.length <= 4300):PySem.intText? z = some (numM z:Int):=by
 obtain ⟨h1,h2⟩:=oI.mp h;exact intText_digits h2 h1 hl
theorem lM:∀ (cs:List Nat) (a:Nat),NumText.AllDigits cs->cs.foldl (fun acc c=>acc * 10 + (c - 48)) a < (a + 1) * 10 ^ cs.length
 | [],a,_=>by simp
 | c :: cs,a,h=>by
  rw [List.foldl_cons,List.length_cons,Nat.pow_succ];have hc:=h c List.mem_cons_self;have ih:=lM cs (a * 10 + (c - 48)) fun x hx=>h x (List.mem_cons_of_mem _ hx)
  have:(a * 10 + (c - 48) + 1) * 10 ^ cs.length <= (a + 1) * 10 * 10 ^ cs.length:=Nat.mul_le_mul_right _ (by omega)
  calc _ < _:=ih
   _ <= _:=this
   _ = _:=by rw [Nat.mul_assoc,Nat.mul_comm 10]
def Ao (least most:Int) (n:Nat) (z:Str):Option Int :=
 if z.length <= n/\iB z = true/\¬ (mS z.cps.toList 0 = some 48/\z ≠ Str.ofString "0")/\least <= numM z/\(numM z:Int) <= most then some (numM z:Int) else none
def wa (z:Str):Option Int:=if z.length <= 6/\iB z = true/\mS z.cps.toList 0 ≠ some 48/\numM z % 8 = 0 then some (numM z:Int) else none
def iP (n:Nat):Nat->List Nat
 | 0=>[]
 | i + 1=>(48 + n / 10 ^ i % 10) :: iP n i
theorem iN (n k:Nat):(iP n k).length = k:=by
 induction k with
 | zero=>rfl
 | succ k ih=>simp only [iP,List.length_cons,ih]
theorem iO (n k:Nat):NumText.AllDigits (iP n k):=by
 induction k with
 | zero=>intro c hc;cases hc
 | succ k ih =>
  intro c hc
  rcases List.mem_cons.mp hc with rfl | h
  ·omega
  ·exact ih c h
theorem qQ (n:Nat):∀ (k a:Nat),(iP n k).foldl (fun acc c=>acc * 10 + (c - 48)) a = a * 10 ^ k + n % 10 ^ k
 | 0,a=>by simp [iP,Nat.mod_one]
 | k + 1,a=>by
  simp only [iP,List.foldl_cons];rw [qQ n k,Nat.add_sub_cancel_left];have h1:=Nat.div_add_mod n (10 ^ k);have h2:=Nat.div_add_mod (n / 10 ^ k) 10;have h3:n % 10 ^ (k + 1) = n % 10 ^ k + 10 ^ k * (n / 10 ^ k % 10):=by
   rw [Nat.pow_succ,Nat.mod_mul]
  rw [h3,Nat.pow_succ,Nat.add_mul,Nat.mul_assoc,Nat.mul_comm 10 (10 ^ k),Nat.mul_comm (n / 10 ^ k % 10) (10 ^ k)];omega
theorem nW (h:n < 10 ^ k):NumText.digitsVal (iP n k) = n:=by
 unfold NumText.digitsVal;rw [qQ,Nat.mod_eq_of_lt h];omega
theorem C6:∀ cs:List Nat,cs = List.replicate (cs.length - (cs.dropWhile (· == 48)).length) 48 ++ cs.dropWhile (· == 48)
 | []=>rfl
 | c :: cs=>by
  by_cases h:c = 48
  ·subst h;have ih:=C6 cs;have hl:(cs.dropWhile (· == 48)).length <= cs.length:=(List.dropWhile_sublist _).length_le;rw [List.dropWhile_cons_of_pos (by simp),List.length_cons,show cs.length + 1 - (cs.dropWhile (· == 48)).length = (cs.length - (cs.dropWhile (· == 48)).length) + 1 by omega,List.replicate_succ,List.cons_append,<- ih]
  ·rw [List.dropWhile_cons_of_neg (by simpa using h)];simp
def fP (n k:Nat):Str:=⟨(iP n k).toArray⟩
theorem bS (n k:Nat):(fP n k).length = k:=by rw [len_list];show (iP n k).length = k;exact iN n k
theorem uO (n:Nat):(Str.ofString (toString (n:Int))).cps.toList = (Nat.toDigits 10 n).map Char.toNat:=W.KIN.signs_num n
theorem uV:∀ {cs:List Nat},NumText.AllDigits cs->(cs.map Char.ofNat).map Char.toNat = cs
 | [],_=>rfl
 | c :: cs,h=>by
  have hc:=h c List.mem_cons_self;have:(Char.ofNat c).toNat = c:=by
   obtain ⟨d,rfl⟩:∃ d,c = 48 + d:=⟨c - 48,by omega⟩;have hd:d < 10:=by omega
   match d,hd with
   | 0,_=>rfl
   | 1,_=>rfl
   | 2,_=>rfl
   | 3,_=>rfl
   | 4,_=>rfl
   | 5,_=>rfl
   | 6,_=>rfl
   | 7,_=>rfl
   | 8,_=>rfl
   | 9,_=>rfl
  rw [List.map_cons,List.map_cons,this,uV fun x hx=>h x (List.mem_cons_of_mem _ hx)]
theorem mZ (h:n < 10 ^ k) (hk:1 <= k):iP n k = List.replicate (k - (Str.ofString (toString (n:Int))).length) 48 ++ (Str.ofString (toString (n:Int))).cps.toList:=by
 have hd:=iO n k;have ha:=NumText.toDigits_all (iP n k) hd;rw [nW h] at ha;have e:=C6 (iP n k);rw [iN] at e;rw [len_list,uO,ha]
 cases hc:(iP n k).dropWhile (· == 48) with
 | nil =>
  rw [hc] at e;simp only [List.length_nil,Nat.sub_zero,List.append_nil] at e;rw [e];obtain ⟨m,rfl⟩:∃ m,k = m + 1:=⟨k - 1,by omega⟩
  show List.replicate (m + 1) 48 = List.replicate (m + 1 - 1) 48 ++ [48];rw [Nat.add_sub_cancel,List.replicate_succ']
 | cons c r =>
  rw [hc] at e;have Mg:NumText.AllDigits (c :: r):=fun x hx=>hd x (by rw [e];exact List.mem_append_right _ hx)
  simp only;rw [uV Mg];exact e
theorem yS (h:n < 10 ^ k) (hk:1 <= k):Txt.zfill (Str.ofString (toString (n:Int))) (k:Int) = fP n k:=by
 have hp:=mZ h hk;have hl:=congrArg List.length hp;rw [iN,List.length_append,List.length_replicate,<- len_list] at hl;refine bp ?_;show _ = iP n k;rw [hp];unfold Txt.zfill
 split
 ·rename_i hi;rw [show k - (Str.ofString (toString (n:Int))).length = 0 by omega]
  rfl
 ·have Mc:NumText.AllDigits (Str.ofString (toString (n:Int))).cps.toList:=fun c hc=>iO n k c (by rw [hp];exact List.mem_append_right _ hc)
  have hz:zfilled (Str.ofString (toString (n:Int))) ((k:Int).toNat - (Str.ofString (toString (n:Int))).length) = Builtin.Str.padded (Str.ofString (toString (n:Int))) ((k:Int).toNat - (Str.ofString (toString (n:Int))).length) 0 48:=by
   unfold zfilled
   split
   ·rename_i h0;have:=Mc 43 (by rw [<- Array.getElem?_toList] at h0;exact List.mem_of_getElem? h0);omega
   ·rename_i h0;have:=Mc 45 (by rw [<- Array.getElem?_toList] at h0;exact List.mem_of_getElem? h0);omega
   ·rfl
  rw [hz,Int.toNat_natCast];unfold Builtin.Str.padded;simp
theorem len_app (x y:Str):(x ++ y).length = x.length + y.length:=by rw [len_list,app_list,List.length_append,<- len_list,<- len_list]
theorem qr {i j:Nat} (h1:i <= j) (h2:j <= z.length):(Txt.slice z (some (i:Int)) (some (j:Int))).cps.toList = (z.cps.toList.drop i).take (j - i):=by
 have e:=slice_closes (x:=z) (i:=(i:Int)) (j:=(j:Int)) ⟨by omega,by omega,by rw [<- len_list];omega⟩;rw [eq_of_beq e];show (z.cps.toList.drop (i:Int).toNat).take ((j:Int) - (i:Int)).toNat = _;rw [show ((j:Int) - (i:Int)).toNat = j - i by omega,show (i:Int).toNat = i by omega]
theorem y3 (a b c:Str) {j:Int} (hi:i = (a.length:Nat)) (hj:j = ((a.length + b.length:Nat):Int)):Txt.slice (a ++ (b ++ c)) (some i) (some j) = b:=by
 subst hi hj;refine bp ?_;rw [qr (by omega) (by rw [len_app,len_app];omega)];rw [app_list,app_list,len_list a,List.drop_left,Nat.add_sub_cancel_left,len_list b,List.take_left]
theorem jS (a b:Str) (hi:i = (a.length:Nat)):Txt.slice (a ++ b) (some i) none = b:=by
 subst hi;refine bp ?_;rw [jT (by omega) (by rw [len_app];omega),app_list];rw [show ((a.length:Nat):Int).toNat = a.length by omega,len_list a,List.drop_left]
theorem nF (a b:Str) {j:Int} (hj:j = (a.length:Nat)):Txt.slice (a ++ b) none (some j) = a:=by
 subst hj;refine bp ?_;rw [ud (by omega) (by rw [len_app];omega),app_list];rw [show ((a.length:Nat):Int).toNat = a.length by omega,len_list a,List.take_left]
theorem nV (n:Nat) (hk:1 <= k):iB (fP n k) = true:=by
 refine oI.mpr ⟨fun h=>?_,iO n k⟩;have:=congrArg List.length h;rw [show (fP n k).cps.toList = iP n k from rfl,iN] at this;simp at this;omega
theorem zo (h:n < 10 ^ k) (hk:1 <= k) (hl:k <= 4300):PySem.intText? (fP n k) = some (n:Int):=by
 rw [jv (nV n hk) (by rw [bS];exact hl)];show some ((NumText.digitsVal (iP n k):Nat):Int) = _;rw [nW h]
theorem ET (n k:Nat):(fP n k).cps.toList.all jI = true:=by
 rw [List.all_eq_true];intro c hc;have:=iO n k c hc;simp only [jI,decide_eq_true_eq];omega
section
theorem jF:∀ (zs:List Str) (n:Nat),Vals (zs.map V.str) (strsFrom n zs)
 | [],_=>.nil
 | z :: zs,n=>.cons ⟨_,rfl⟩ (jF zs (n + 1))
def wW:V->List V->Hp->VK->Prop:=fun x vs H Q=>∃ z y,x = .str z/\vs = [.str y]/\(y.length == 0) = false/\z.length + 2 <= sizeLine/\∀ p H1,H p = none->Same H H1->H1 p = some (.lst ((Txt.split z y).map V.str))->Q (.ref p) H1
theorem Cu:J7 X "str.split" wW:=by
 intro pins s σ H x vs v us Q I rx rv h;obtain ⟨z,y,rfl,rfl,hy,hz,q⟩:=h;obtain ⟨t,rfl⟩:=rx;obtain ⟨u,rfl,t',rfl⟩:=rv.one;have hl:(Txt.split z y).length <= sizeLine:=Nat.le_trans (split_le z y) hz;have fin:∀ (vs:List Value) (tk:Nat),Vals ((Txt.split z y).map V.str) vs->EP X pins σ Q (.ref s.heap.objs.size) { s with toks:=tk,heap:=s.heap.push { cls:=.type "list",data:=.seq vs.toArray } }:=fun vs tk rv =>
  ⟨.ref s.heap.objs.size,_,I.laid (o:=.lst _) (t':=tk) (fun b u=>Heap.get?_push_of_some _) (Nat.le_refl _) ⟨by rw [List.length_map];exact hl,vs,_,rv,Heap.get?_push_size _ rfl⟩,rfl,q _ _ I.fresh (aU I.fresh) aE⟩
 by_cases h1:(decide (z.length < y.length) || decide (Builtin.Str.strKind z < Builtin.Str.strKind y)) = true
 ·rw [show Txt.split z y = [z] by unfold Txt.split;rw [if_pos h1]] at fin;exact call_meets F.slot_str_split (typeIs_str s z t) F.entry_str_split (F.args_str_split_2 _ _) (meets_str_split_cannot_occur z y t t' h1) (fin _ _ (.cons ⟨_,rfl⟩ .nil))
 ·by_cases h2:(Builtin.Str.occurrences z y 0 z.length (z.length + 1)).isEmpty = true
  ·rw [show Txt.split z y = [z] by unfold Txt.split;rw [if_neg h1,if_pos h2]] at fin;exact call_meets F.slot_str_split (typeIs_str s z t) F.entry_str_split (F.args_str_split_2 _ _) (meets_str_split_not_found z y t t' (Bool.eq_false_iff.mpr h1) hy h2) (fin _ _ (.cons ⟨_,rfl⟩ .nil))
  ·have e:Txt.split z y = Builtin.Str.partsBetween z (Builtin.Str.occurrences z y 0 z.length (z.length + 1)) y.length:=by unfold Txt.split;rw [if_neg h1,if_neg h2]
   rw [e] at fin hl;exact call_meets F.slot_str_split (typeIs_str s z t) F.entry_str_split (F.args_str_split_2 _ _) (meets_str_split_sep z y t t' (Bool.eq_false_iff.mpr h1) hy (Bool.eq_false_iff.mpr h2) (by omega) hl) (fin _ _ (jF _ _))
theorem bm_split (ho : BE X o to) (ha : BA X (e :: es) t) (gc : attributeBase o "split" X.env (eval o X.env) = eval o X.env := by rfl)
    (j4:((backTo cH (starEach (e :: es) X.env)).all (fun x=>!x.1) && (backToKw cH (keywordEach [] X.env)).all (fun x=>x.1.isSome)
     && decide ((e :: es).length + ([]:List Keyword).length + (if ([]:List Keyword).isEmpty then 0 else 1) < 30)) = true:=by rfl)
    (fY:(apos.endLine == cH.line) = true:=by rfl) (h1:isStar e = false:=by rfl) (h2:noStar es = true:=by rfl) :
    BE X (.Call (.Attribute o "split" apos) (e :: es) [] cH) (DP X.K "str" wW to t) :=
 ⟨nU F.plainAttrs_str F.slot_str_split F.type_str_split Cu ho.h ha.h gc j4 fY (aN h1) (cJ h2)⟩
theorem Bu (hy:(y.length == 0) = false) (hz:z.length + 2 <= sizeLine) (q:∀ p H1,H p = none->Same H H1->H1 p = some (.lst ((Txt.split z y).map V.str))->Q (.ref p) H1):wW (.str z) [.str y] H Q:=⟨z,y,rfl,rfl,hy,hz,q⟩
end
def glue (c:Nat):List (List Nat)->List Nat
 | []=>[]
 | [a]=>a
 | a :: b :: r=>a ++ c :: glue c (b :: r)
theorem qg {c:Nat}:∀ {a b r q:List Nat},c ∉ a->c ∉ b->a ++ c :: r = b ++ c :: q->a = b/\r = q
 | [],[],r,q,_,_,h=>⟨rfl,(List.cons.inj h).2⟩
 | [],y :: b,r,q,_,hb,h=>absurd (List.cons.inj h).1 (fun e=>hb (e ▸ List.mem_cons_self))
 | x :: a,[],r,q,ha,_,h=>absurd (List.cons.inj h).1 (fun e=>ha (e ▸ List.mem_cons_self))
 | x :: a,y :: b,r,q,ha,hb,h=>by
  obtain ⟨e,h'⟩:=List.cons.inj h;obtain ⟨h1,h2⟩:=qg (fun hc=>ha (List.mem_cons_of_mem _ hc)) (fun hc=>hb (List.mem_cons_of_mem _ hc)) h'
  exact ⟨by rw [e,h1],h2⟩
theorem vv {c:Nat}:∀ {as bs:List (List Nat)},as ≠ []->bs ≠ []->(∀ a ∈ as,c ∉ a)->(∀ b ∈ bs,c ∉ b)->glue c as = glue c bs->as = bs
 | [],_,h,_,_,_,_=>absurd rfl h
 | _,[],_,h,_,_,_=>absurd rfl h
 | [a],[b],_,_,_,_,h=>by rw [show a = b from h]
 | [a],b :: b' :: bs,_,_,ha,_,h=>by
  refine absurd ?_ (ha a List.mem_cons_self);rw [show a = b ++ c :: glue c (b' :: bs) from h];exact List.mem_append_right _ List.mem_cons_self
 | a :: a' :: as,[b],_,_,_,hb,h=>by
  refine absurd ?_ (hb b List.mem_cons_self);rw [<- show a ++ c :: glue c (a' :: as) = b from h];exact List.mem_append_right _ List.mem_cons_self
 | a :: a' :: as,b :: b' :: bs,_,_,ha,hb,h=>by
  obtain ⟨h1,h2⟩:=qg (ha a List.mem_cons_self) (hb b List.mem_cons_self) h;rw [h1,vv (List.cons_ne_nil _ _) (List.cons_ne_nil _ _) (fun x hx=>ha x (List.mem_cons_of_mem _ hx)) (fun x hx=>hb x (List.mem_cons_of_mem _ hx)) h2]
theorem qJ (c:Nat):∀ zs:List Str,(Str.join ⟨#[c]⟩ zs).cps.toList = glue c (zs.map fun z=>z.cps.toList)
 | []=>rfl
 | [a]=>rfl
 | a :: b :: r=>by
  have ih:=qJ c (b :: r);show (a ++ (⟨#[c]⟩:Str) ++ Str.join ⟨#[c]⟩ (b :: r):Str).cps.toList = a.cps.toList ++ c :: glue c ((b :: r).map fun z=>z.cps.toList)
  rw [app_list,app_list,ih,List.append_assoc]
  rfl
theorem ma:∀ {as bs:List Str},(as.map fun z=>z.cps.toList) = (bs.map fun z=>z.cps.toList)->as = bs
 | [],[],_=>rfl
 | [],_ :: _,h=>by cases h
 | _ :: _,[],h=>by cases h
 | a :: as,b :: bs,h=>by
  rw [List.map_cons,List.map_cons] at h;obtain ⟨h1,h2⟩:=List.cons.inj h;rw [bp h1,ma h2]
theorem AY {zs:List Str} (h0:zs ≠ []) (hf:∀ z ∈ zs,c ∉ z.cps.toList) (hx:x.cps.toList = glue c (zs.map fun z=>z.cps.toList)):Txt.split x ⟨#[c]⟩ = zs:=by
 have hj:=StrLaws.join_split x ⟨#[c]⟩;have hp:=split_pos x ⟨#[c]⟩;refine ma (vv (c:=c) (fun h=>?_) (fun h=>h0 (List.map_eq_nil_iff.mp h)) (fun a ha=>?_) (fun a ha=>?_) ?_)
 ·rw [List.map_eq_nil_iff.mp h] at hp;exact absurd hp (by simp)
 ·obtain ⟨z,hz,rfl⟩:=List.mem_map.mp ha;exact StrLaws.split_free x c z hz
 ·obtain ⟨z,hz,rfl⟩:=List.mem_map.mp ha;exact hf z hz
 ·rw [<- qJ,hj,hx]
def qU (c:Nat):List (List Nat)->List Nat
 | []=>[]
 | r :: rs=>r ++ c :: qU c rs
theorem qP (c:Nat):∀ rs:List (List Nat),glue c (rs ++ [[]]) = qU c rs
 | []=>rfl
 | [r]=>rfl
 | r :: q :: rs=>by
  show r ++ c :: glue c (q :: rs ++ [[]]) = r ++ c :: qU c (q :: rs);rw [qP c (q :: rs)]
theorem wA {zs:List Str} (hf:∀ z ∈ zs,c ∉ z.cps.toList) (hx:x.cps.toList = qU c (zs.map fun z=>z.cps.toList)):Txt.split x ⟨#[c]⟩ = zs ++ [Str.ofString ""]:=by
 refine AY (by simp) (fun z hz=>?_) ?_
 ·rcases List.mem_append.mp hz with h | h
  ·exact hf z h
  ·rw [List.mem_singleton.mp h];exact List.not_mem_nil
 ·rw [List.map_append,hx,<- qP]
  rfl
section
theorem Vals.len {us:List Value} (h:Vals xs us):us.length = xs.length:=by
 induction h with
 | nil=>rfl
 | cons _ _ ih=>simp only [List.length_cons,ih]
end
section
theorem jQ (x y:Str):Txt.startswith x y = true ↔ y.cps.toList <+: x.cps.toList:=by
 unfold Txt.startswith
 rw [StrLaws.subAt_eq,List.drop_zero,Bool.and_eq_true,decide_eq_true_eq,beq_iff_eq,Nat.zero_add,len_list,len_list];rw [List.prefix_iff_eq_take];exact ⟨fun h=>h.2.symm,fun h=>⟨by rw [h,List.length_take];omega,h.symm⟩⟩
theorem wz (z:Str) (s:String) (c:Nat) (h:Str.ofString s = ⟨#[c]⟩):Txt.startswith z (Str.ofString s) = true ↔ mS z.cps.toList 0 = some c:=by
 rw [jQ,h];show [c] <+: z.cps.toList ↔ _
 cases z.cps.toList with
 | nil=>exact ⟨fun h=>absurd h (by simp),fun h=>by cases h⟩
 | cons a l =>
  rw [show mS (a :: l) 0 = some a from bZ (xs:=a :: l) (j:=0) rfl]
  constructor
  ·rintro ⟨t,ht⟩;injection ht with h1;rw [h1]
  ·intro h;injection h with h;subst h;exact ⟨l,rfl⟩
end
theorem Ac (xs:List V) (x:V):kH (xs ++ [x]) none (some (-1)) = xs:=by
 unfold kH;have e:HT.sIx (xs ++ [x]).length (xs ++ [x]).length (some (-1)) = xs.length:=by
  unfold HT.sIx;rw [List.length_append,List.length_singleton];simp only;rw [if_pos (by decide)];omega
 rw [HT.sIx_none,e];rw [List.drop_zero,Nat.sub_zero,List.take_left]
theorem ES (h:n < 10 ^ k) (hk:1 <= k) (hl:k <= 600):numM (fP n k) = n:=by
 have e:=(jv (nV n hk) (by rw [bS];omega)).symm.trans (zo h hk (by omega));have:=Option.some.inj e;omega
section
theorem LC {a : Addr} (W : Nat -> List V -> Hp -> Prop) (hz : xs.length <= sizeLine) (h0 : W 0 [] H) (hl : ∀ i ys H', W i ys H' -> SqL K H' a xs /\ ys.length <= i)
    (hE:∀ i v ys H',xs[i]? = some v->W i ys H'->tt (some v :: pick ix σ) H' fun b H4=>if b = true then te (some v :: pick ix σ) H4 fun y H5=>W (i + 1) (ys ++ [y]) H5 else W (i + 1) ys H4)
    (hQ:∀ ys p H' H1,W xs.length ys H'->H' p = none->Same H' H1->H1 p = some (.lst ys)->Q (.ref p) H1):Au (FR K a) ix σ tt te Q H:=by
 refine ⟨fun i m ys H2=>m = xs.length - i/\i <= xs.length/\W i ys H2,⟨xs.length,by simp,Nat.zero_le _,h0⟩,?_⟩
 rintro i m ys H2 ⟨rfl,hi,w⟩;obtain ⟨q,e⟩:=hl i ys H2 w
 by_cases ed:i < xs.length
 ·refine .inr ⟨⟨xs,_,q,List.getElem?_eq_getElem ed⟩,by omega,fun x H3 y=>?_⟩
  obtain ⟨rfl,y⟩:=y;have ex:∀ (zs:List V) (H5:Hp),(∃ m',m' < xs.length - i/\m' = xs.length - (i + 1)/\i + 1 <= xs.length/\W (i + 1) zs H5) = W (i + 1) zs H5:=fun zs H5 =>
   propext ⟨fun ⟨m',_,_,_,h⟩=>h,fun h=>⟨xs.length - (i + 1),by omega,rfl,ed,h⟩⟩
  simp only [ex];exact hE i x ys _ (y xs q) w
 ·have:i = xs.length:=by omega
  subst this;exact .inl ⟨⟨xs,q,Nat.le_refl _⟩,fun D hD=>hQ ys D H2 _ w hD (aU hD) aE⟩
theorem oA {p:Prop} [Decidable p] {T U:TS} {D:Ends} (R:St->Hp->Prop) (h2:∀ σ' H',R σ' H'->D.nx σ' H') (hp:p->∀ GC:St->Hp->Prop,(∀ σ' H',R σ' H'->GC σ' H')->T { nx:=GC,rt:=D.rt,bk:=D.bk,ct:=D.ct } σ H) (hn:¬ p->∀ GC:St->Hp->Prop,(∀ σ' H',R σ' H'->GC σ' H')->U { nx:=GC,rt:=D.rt,bk:=D.bk,ct:=D.ct } σ H):if p then T D σ H else U D σ H:=by
 by_cases h:p
 ·rw [if_pos h];exact hp h D.nx h2
 ·rw [if_neg h];exact hn h D.nx h2
end
end L2
namespace PySem
open PySem PySem.Spec PySem.AutoSeq1
end PySem
namespace L2
open PySem PySem.Spec PyProof.Rows
variable {n:Nat}
def dk (n:Nat):Str:=Str.ofString (toString (n:Int))
theorem fE {k:Nat} (h:n < 10 ^ k) (hk:1 <= k):(dk n).length <= k:=by
 have e:=congrArg List.length (mZ h hk);rw [iN,List.length_append,List.length_replicate] at e;have:(Str.ofString (toString (n:Int))).cps.toList.length = (dk n).length:=(len_list _).symm;rw [this] at e;have e2:(Str.ofString (toString (n:Int))).length = (dk n).length:=rfl;omega
theorem Cm {k:Nat} (h:n < 10 ^ k) (hk:1 <= k):NumText.AllDigits (dk n).cps.toList:=fun c hc=>iO n k c (by rw [mZ h hk];exact List.mem_append_right _ hc)
theorem Ja (n:Nat):n < 10 ^ (n + 1):=by
 induction n with
 | zero=>decide
 | succ n ih=>rw [Nat.pow_succ];omega
theorem lG (n:Nat):NumText.AllDigits (dk n).cps.toList:=Cm (Ja n) (by omega)
theorem sC (n:Nat):(dk n).cps.toList ≠ []:=by
 intro h;have e:(dk n).cps.toList = (Nat.toDigits 10 n).map Char.toNat:=uO n;rw [h] at e;have:=congrArg List.length e;rw [List.length_map] at this;have h2:0 < (Nat.toDigits 10 n).length:=Nat.length_toDigits_pos;simp at this;omega
theorem uP (n:Nat):iB (dk n) = true:=oI.mpr ⟨sC n,lG n⟩
theorem oj (h:n < 10 ^ 20):numM (dk n) = n:=by
 have hl:=fE h (by decide);have hp:=mZ h (by decide);have hv:=nW h;rw [hp] at hv;unfold NumText.digitsVal at hv;rw [List.foldl_append] at hv;have e0:∀ k:Nat,(List.replicate k 48).foldl (fun acc c=>acc * 10 + (c - 48)) 0 = 0:=fun k=>by
  induction k with
  | zero=>rfl
  | succ k ih=>rw [List.replicate_succ,List.foldl_cons];exact ih
 rw [e0] at hv;exact hv
theorem E1 (h:n < 10 ^ 20):n < 10 ^ (dk n).length:=by
 have:=lM (dk n).cps.toList 0 (lG n);have e:=oj h;unfold numM at e;rw [<- len_list] at this;have e':(dk n).cps.toList.foldl (fun acc c=>acc * 10 + (c - 48)) 0 = n:=e
 rw [e'] at this;simpa using this
theorem zA {m:Nat} (h:n <= m) (hm:m < 10 ^ 20):(dk n).length <= (dk m).length:=by
 have h1:=E1 hm;have h2:1 <= (dk m).length:=by
  rw [len_list];exact List.length_pos_iff.mpr (sC m)
 exact fE (Nat.lt_of_le_of_lt h h1) h2
theorem xk (h1:1 <= n) (h:n < 10 ^ 20):mS (dk n).cps.toList 0 ≠ some 48:=by
 intro h0;have hne:=sC n;have hd:=lG n;have hv:=oj h;have pX:∀ k,n < 10 ^ k->1 <= k->(dk n).cps.toList.length <= k:=fun k a b=>by rw [<- len_list];exact fE a b
 unfold numM at hv;generalize (dk n).cps.toList = cs at *
 cases cs with
 | nil=>exact hne rfl
 | cons c r =>
  have hc:c = 48:=by
   rw [show mS (c :: r) 0 = some c from bZ (xs:=c :: r) (j:=0) rfl] at h0;exact Option.some.inj h0
  subst hc;have hr:=lM r 0 (fun x hx=>hd x (List.mem_cons_of_mem _ hx))
  have e:r.foldl (fun acc c=>acc * 10 + (c - 48)) 0 = n:=hv
  rw [e] at hr;have Ap:n < 10 ^ r.length:=by simpa using hr
  by_cases hz:r.length = 0
  ·rw [hz] at Ap;simp at Ap;omega
  ·have:=pX r.length Ap (by omega);rw [List.length_cons] at this;omega
theorem Bo {least:Int} {most:Nat} (h1:least <= (n:Int)) (h2:n <= most) (hm:most < 10 ^ 20) (h0:1 <= n \/ n = 0):Ao least (most:Nat) (Str.ofString (toString (most:Int))).length (dk n) = some (n:Int):=by
 have hn:n < 10 ^ 20:=Nat.lt_of_le_of_lt h2 hm;unfold Ao;rw [oj hn];refine if_pos ⟨zA h2 hm,uP n,fun h=>?_,h1,by omega⟩
 rcases h0 with h0 | h0
 ·exact xk h0 hn h.1
 ·subst h0;exact h.2 (by unfold dk;decide +kernel)
theorem hV (n c:Nat) (hc:jI c = false):c ∉ (dk n).cps.toList:=fun h=>by
 have:=uP n;unfold iB at this;rw [Bool.and_eq_true,List.all_eq_true] at this;rw [this.2 c h] at hc
 cases hc
section
variable {K:W.Frag} {σ:St} {H:Hp} {Q:VK} {ix:List Nat} {te:TE} {tt:TT}
theorem GH {a : Addr} {xs : List V} (W : Nat -> List V -> Hp -> Prop) (hz : xs.length <= sizeLine) (h0 : W 0 [] H) (hl : ∀ i ys H', W i ys H' -> SqT K H' a xs /\ ys.length <= i)
    (hE:∀ i v ys H',xs[i]? = some v->W i ys H'->tt (some v :: pick ix σ) H' fun b H4=>if b = true then te (some v :: pick ix σ) H4 fun y H5=>W (i + 1) (ys ++ [y]) H5 else W (i + 1) ys H4)
    (hQ:∀ ys p H' H1,W xs.length ys H'->H' p = none->Same H' H1->H1 p = some (.lst ys)->Q (.ref p) H1):Au (FQ K a) ix σ tt te Q H:=by
 refine ⟨fun i m ys H2=>m = xs.length - i/\i <= xs.length/\W i ys H2,⟨xs.length,by simp,Nat.zero_le _,h0⟩,?_⟩
 rintro i m ys H2 ⟨rfl,hi,w⟩;obtain ⟨q,e⟩:=hl i ys H2 w
 by_cases ed:i < xs.length
 ·refine .inr ⟨⟨xs,_,q,List.getElem?_eq_getElem ed⟩,by omega,fun x H3 y=>?_⟩
  obtain ⟨rfl,y⟩:=y;have ex:∀ (zs:List V) (H5:Hp),(∃ m',m' < xs.length - i/\m' = xs.length - (i + 1)/\i + 1 <= xs.length/\W (i + 1) zs H5) = W (i + 1) zs H5:=fun zs H5 =>
   propext ⟨fun ⟨m',_,_,_,h⟩=>h,fun h=>⟨xs.length - (i + 1),by omega,rfl,ed,h⟩⟩
  simp only [ex];exact hE i x ys _ (y xs q) w
 ·have:i = xs.length:=by omega
  subst this;exact .inl ⟨⟨xs,q,Nat.le_refl _⟩,fun D hD=>hQ ys D H2 _ w hD (aU hD) aE⟩
theorem Fb {a : Addr} {xs : List V} (W : Nat -> List V -> Hp -> Prop) (hz : xs.length <= sizeLine) (h0 : W 0 [] H) (hl : ∀ i ys H', W i ys H' -> SqT K H' a xs /\ ys.length = i)
    (hE:∀ i v ys H',xs[i]? = some v->W i ys H'->te (some v :: pick ix σ) H' fun y H5=>W (i + 1) (ys ++ [y]) H5)
    (hQ:∀ ys p H' H1,W xs.length ys H'->H' p = none->Same H' H1->H1 p = some (.lst ys)->Q (.ref p) H1):Au (FQ K a) ix σ tP te Q H :=
 GH W hz h0 (fun i ys H' w=>⟨(hl i ys H' w).1,Nat.le_of_eq (hl i ys H' w).2⟩) (fun i v ys H' hv w=>by
  show (fun b H4=>if b = true then te (some v :: pick ix σ) H4 fun y H5=>W (i + 1) (ys ++ [y]) H5 else W (i + 1) ys H4) true H'
  exact hE i v ys H' hv w) hQ
end
end L2
namespace TS
open PySem PySem.W PyProof.Rows
variable {β:Type}
local macro_rules | `(term| type_of% $n:ident) => return Lean.mkIdent (Lean.mkPrivateNameCore `PySem.Builtin.List.W1All (`PySem.Builtin ++ n.getId))
local macro_rules | `(tactic| delta $n:ident) => if Lean.isPrivateName n.getId then Lean.Macro.throwUnsupported else `(tactic| delta $(Lean.mkIdent (Lean.mkPrivateNameCore `PySem.Builtin.List.W1All (`PySem.Builtin ++ n.getId))):ident)
abbrev DM:=type_of% lt
abbrev AF:=type_of% elem
abbrev kg:=type_of% gallop
abbrev KA:=type_of% mergeLo
abbrev KC:=type_of% mergeHi
abbrev FV:=type_of% setMinGallop
structure tF (prog:Program) (w:World) (A:Around) (s:Shared) (κ:SortKind) (M:Keyed->Prop) (c:Keyed->Keyed->Bool):Prop where
 ask:∀ x y,M x->M y->∀ C:Bool->Shared->Prop,C (c x y) s->wpAny (model prog w) A (keyLt' κ x.1 y.1) C (fun _ _=>False) s
 tot:∀ x y,M x->M y->x ≠ y->c x y = false->c y x = true
 asy:∀ x y,M x->M y->c x y = true->c y x = false
 trans:∀ x y z,M x->M y->M z->c x y = true->c y z = true->c x z = true
section
variable {prog:Program} {w:World} {A:Around} {s:Shared} {E:Value->Shared->Prop} {κ:SortKind} {M:Keyed->Prop} {c:Keyed->Keyed->Bool}
theorem tK (L:tF prog w A s κ M c) {x y:Keyed} (hx:M x) (hy:M y) {st:SortSt} (hk:PyProof.Rows.kindOf st = κ) {Q:Option Bool->SortSt->Prop} (q:Q (some (c x y)) st):wpS (model prog w) A E s (DM x y) Q st:=by
 unfold DM
 delta lt
 refine wpS_bind (wpS_get ?_);refine wpS_bind (wpS_lift ?_);refine wpAny_attempt ?_;have:=L.ask x y hx hy (fun b s'=>s' = s/\wpS (model prog w) A E s (match (Except.ok b:Except Value Bool) with
  | Except.ok b=>pure (some b)
  | Except.error e=>do
   modify fun x=>SortSt.mk' (PyProof.Rows.kindOf x) (arrOf x) (pendingOf x) (gallopOf x) (some e)
   pure none) Q st) ⟨rfl,wpS_pure q⟩
 rw [<- hk] at this;exact wpAny_mono this (fun _ _ h=>h) fun _ _ h=>h.elim
theorem aY {arr:Array Keyed} {i:Nat} {p:Keyed} (h:arr[i]? = some p) {st:SortSt} {Q:Keyed->SortSt->Prop} (q:Q p st):wpS (model prog w) A E s (AF arr i) Q st:=by
 show wpS (model prog w) A E s (elem' arr i) Q st;rw [elem'_eq,h];exact wpS_pure q
abbrev Dt {β:Type} (D Y:β->SortSt->Prop):ForInStep β->SortSt->Prop
 | .done b,st=>D b st
 | .yield b,st=>Y b st
theorem dj {f : Nat -> β -> StateT SortSt Sem (ForInStep β)} {Q : β -> SortSt -> Prop} (I : Nat -> β -> SortSt -> Prop)
    (step:∀ x k b st,I k b st->wpS (model prog w) A E s (f x b) (Dt Q (fun b' bA=>∃ k',k' < k/\I k' b' bA)) st) :
    ∀ (l:List Nat) (k:Nat) (b:β) (st:SortSt),k < l.length->I k b st->wpS (model prog w) A E s (forIn l b f) Q st
 | [],k,b,st,h,_=>absurd h (Nat.not_lt_zero _)
 | x :: l,k,b,st,h,i=>by
  rw [List.forIn_cons];refine wpS_bind (wpS_mono (step x k b st i) fun r bA hr=>?_)
  cases r with
  | done b'=>exact wpS_pure hr
  | yield b' =>
   obtain ⟨k',h1,h2⟩:=hr;exact dj I step l k' b' bA (by rw [List.length_cons] at h;omega) h2
theorem nv {f : Nat -> β -> StateT SortSt Sem (ForInStep β)} {Q : β -> SortSt -> Prop} (I : Nat -> β -> SortSt -> Prop)
    (step:∀ x k b st,I k b st->wpS (model prog w) A E s (f x b) (Dt Q (fun b' bA=>∃ k',k' < k/\I k' b' bA)) st)
    (fin:∀ b st,I 0 b st->Q b st) :
    ∀ (l:List Nat) (k:Nat) (b:β) (st:SortSt),k <= l.length->I k b st->wpS (model prog w) A E s (forIn l b f) Q st
 | [],k,b,st,h,i=>by
  obtain rfl:k = 0:=Nat.le_zero.mp h;rw [List.forIn_nil];exact wpS_pure (fin b st i)
 | x :: l,k,b,st,h,i=>by
  rw [List.forIn_cons];refine wpS_bind (wpS_mono (step x k b st i) fun r bA hr=>?_)
  cases r with
  | done b'=>exact wpS_pure hr
  | yield b' =>
   obtain ⟨k',h1,h2⟩:=hr;exact nv I step fin l k' b' bA (by rw [List.length_cons] at h;omega) h2
theorem range_list {f:Nat->β->StateT SortSt Sem (ForInStep β)} {a n:Nat} {b:β}:(forIn [a:n] b f:StateT SortSt Sem β) = forIn (List.range' a (n - a)) b f:=by
 rw [Std.Legacy.Range.forIn_eq_forIn_range'];simp [Std.Legacy.Range.size]
end
end TS
namespace TS
open PySem PySem.W PyProof.Rows
local macro_rules | `(term| type_of% $n:ident) => return Lean.mkIdent (Lean.mkPrivateNameCore `PySem.Builtin.List.W1All (`PySem.Builtin ++ n.getId))
local macro_rules | `(tactic| delta $n:ident) => if Lean.isPrivateName n.getId then Lean.Macro.throwUnsupported else `(tactic| delta $(Lean.mkIdent (Lean.mkPrivateNameCore `PySem.Builtin.List.W1All (`PySem.Builtin ++ n.getId))):ident)
section
variable {prog:Program} {w:World} {A:Around} {s:Shared} {E:Value->Shared->Prop} {κ:SortKind} {M:Keyed->Prop} {c:Keyed->Keyed->Bool}
theorem gN (L : tF prog w A s κ M c) {left : Bool} {key x : Keyed} {arr : Array Keyed} {j : Nat} {b : Bool} {st : SortSt} (pY : M key) (hx : arr[j]? = some x) (mx : M x) (hb : b = if left then c x key else !(c key x)) (hk : PyProof.Rows.kindOf st = κ) {Q : Option Bool -> SortSt -> Prop} (q : Q (some b) st) :
    wpS (model prog w) A E s (AF arr j >>= fun x=>if left = true then DM x key else DM key x >>= fun r=>pure (Option.map (fun x=>!x) r)) Q st:=by
 refine wpS_bind (aY hx ?_)
 cases left with
 | true =>
  rw [if_pos rfl];refine tK L mx pY hk ?_;rw [hb] at q;exact q
 | false =>
  rw [if_neg (by decide)];refine wpS_bind (tK L pY mx hk (wpS_pure ?_));rw [hb] at q;exact q
theorem qe (L : tF prog w A s κ M c) {left : Bool} {key : Keyed} {arr : Array Keyed} {base n hint : Nat} {st : SortSt} {Q : Option Nat -> SortSt -> Prop} (p : Nat -> Bool)
    (pY:M key) (CT:∀ i,i < n->∃ x,arr[base + i]? = some x/\M x/\p i = if left then c x key else !(c key x))
    (hh:hint < n) (mono:∀ i j,i <= j->j < n->p j = true->p i = true) (hk:PyProof.Rows.kindOf st = κ)
    (q:∀ k,k <= n->(∀ i,i < k->p i = true)->(∀ i,k <= i->i < n->p i = false)->Q (some k) st) :
    wpS (model prog w) A E s (kg left key arr base n hint) Q st:=by
 have yh:∀ i j,i <= j->j < n->p i = false->p j = false:=fun i j h1 h2 h3=>by
  cases e:p j with
  | false=>rfl
  | true=>rw [mono i j h1 h2 e] at h3;cases h3
 unfold kg
 delta gallop
 dsimp only;obtain ⟨x,hx,mx,px⟩:=CT hint hh;refine wpS_bind (gN L pY hx mx px hk ?_);dsimp only
 cases e:p hint with
 | true =>
  rw [if_pos rfl];refine wpS_bind ?_;rw [range_list];refine wpS_mono (Q:=fun (b:Option (Option Nat) × Nat × Nat) bA=>st = bA/\b.1 = none/\b.2.1 < b.2.2/\hint + b.2.1 < n/\p (hint + b.2.1) = true/\(hint + b.2.2 < n->p (hint + b.2.2) = false))
   (dj (fun k (b:Option (Option Nat) × Nat × Nat) bA=>st = bA/\b.1 = none/\b.2.1 < b.2.2/\hint + b.2.1 < n/\p (hint + b.2.1) = true/\k = n - hint - 1 - b.2.1) ?_ _ (n - hint - 1) _ _ (by rw [List.length_range'];omega) ⟨rfl,rfl,by decide,by dsimp only;omega,e,by dsimp only;omega⟩) ?_
  ·rintro y k ⟨r,dC,pL⟩ bA ⟨rfl,rfl,h1,h2,h3,h4⟩;dsimp only at h1 h2 h3 h4 ⊢
   by_cases g:pL >= n - hint
   ·rw [if_pos g];exact wpS_pure ⟨rfl,rfl,h1,h2,h3,fun z=>by dsimp only at z;omega⟩
   ·rw [if_neg g];obtain ⟨x,hx,mx,px⟩:=CT (hint + pL) (by omega);refine wpS_bind (gN L pY hx mx px hk ?_);dsimp only
    cases e2:p (hint + pL) with
    | false=>exact wpS_pure ⟨rfl,rfl,h1,h2,h3,fun _=>e2⟩
    | true=>exact wpS_pure ⟨_,show n - hint - 1 - pL < k by omega,rfl,rfl,by dsimp only;omega,by dsimp only;omega,e2,rfl⟩
  ·rintro ⟨r,dC,pL⟩ bA ⟨rfl,rfl,h1,h2,h3,h4⟩;dsimp only at h1 h2 h3 h4 ⊢;have f1:∀ i,i < hint + dC + 1->p i = true:=fun i hi=>mono i _ (by omega) h2 h3
   have f2:∀ i,hint + min pL (n - hint) <= i->i < n->p i = false:=fun i h5 h6=>by
    by_cases g:hint + pL < n
    ·exact yh _ i (by omega) h6 (h4 g)
    ·omega
   have f3:hint + dC + 1 <= hint + min pL (n - hint):=by omega
   have f4:hint + min pL (n - hint) <= n:=by omega
   have f5:hint + min pL (n - hint) - (hint + dC + 1) < n:=by omega
   generalize hint + dC + 1 = lo at *;generalize hint + min pL (n - hint) = hi at *;refine wpS_bind ?_;rw [range_list];refine wpS_mono (Q:=fun (b:Option (Option Nat) × Nat × Nat) bA=>st = bA/\b.1 = none/\b.2.2 <= n/\(∀ i,i < b.2.2->p i = true)/\(∀ i,b.2.2 <= i->i < n->p i = false))
    (dj (fun k (b:Option (Option Nat) × Nat × Nat) bA=>st = bA/\b.1 = none/\b.2.1 <= b.2.2/\b.2.2 <= n/\(∀ i,i < b.2.1->p i = true)/\(∀ i,b.2.2 <= i->i < n->p i = false)/\k = b.2.2 - b.2.1) ?_ _ (hi - lo) _ _ (by rw [List.length_range'];omega) ⟨rfl,rfl,f3,f4,f1,f2,rfl⟩) ?_
   ·rintro y k ⟨r,l,h⟩ bA ⟨rfl,rfl,g1,g2,g3,g4,g5⟩;dsimp only at g1 g2 g3 g4 g5 ⊢
    by_cases g:l >= h
    ·rw [if_pos g];obtain rfl:l = h:=by omega
     exact wpS_pure ⟨rfl,rfl,g2,g3,g4⟩
    ·rw [if_neg g];obtain ⟨x,hx,mx,px⟩:=CT (l + (h - l) / 2) (by omega);refine wpS_bind (gN L pY hx mx px hk ?_);dsimp only
     cases e2:p (l + (h - l) / 2) with
     | true=>exact wpS_pure ⟨_,show h - (l + (h - l) / 2 + 1) < k by omega,rfl,rfl,by dsimp only;omega,g2,fun i hi=>mono i _ (by dsimp only at hi;omega) (by omega) e2,g4,rfl⟩
     | false=>exact wpS_pure ⟨_,show l + (h - l) / 2 - l < k by omega,rfl,rfl,by dsimp only;omega,by dsimp only;omega,g3,fun i h5 h6=>yh _ i h5 h6 e2,rfl⟩
   ·rintro ⟨r,l,h⟩ bA ⟨rfl,rfl,g1,g2,g3⟩;exact wpS_pure (q h g1 g2 g3)
 | false =>
  rw [if_neg (by decide)];refine wpS_bind ?_;rw [range_list];refine wpS_mono (Q:=fun (b:Option (Option Nat) × Nat × Nat) bA=>st = bA/\b.1 = none/\b.2.1 < b.2.2/\b.2.1 <= hint/\p (hint - b.2.1) = false/\(b.2.2 <= hint->p (hint - b.2.2) = true))
   (dj (fun k (b:Option (Option Nat) × Nat × Nat) bA=>st = bA/\b.1 = none/\b.2.1 < b.2.2/\b.2.1 <= hint/\p (hint - b.2.1) = false/\k = hint - b.2.1) ?_ _ hint _ _ (by rw [List.length_range'];omega) ⟨rfl,rfl,by decide,Nat.zero_le _,e,rfl⟩) ?_
  ·rintro y k ⟨r,dC,pL⟩ bA ⟨rfl,rfl,h1,h2,h3,h4⟩;dsimp only at h1 h2 h3 h4 ⊢
   by_cases g:pL >= hint + 1
   ·rw [if_pos g];exact wpS_pure ⟨rfl,rfl,h1,h2,h3,fun z=>by dsimp only at z;omega⟩
   ·rw [if_neg g];obtain ⟨x,hx,mx,px⟩:=CT (hint - pL) (by omega);refine wpS_bind (gN L pY hx mx px hk ?_);dsimp only
    cases e2:p (hint - pL) with
    | true=>exact wpS_pure ⟨rfl,rfl,h1,h2,h3,fun _=>e2⟩
    | false=>exact wpS_pure ⟨_,show hint - pL < k by omega,rfl,rfl,by dsimp only;omega,by dsimp only;omega,e2,rfl⟩
  ·rintro ⟨r,dC,pL⟩ bA ⟨rfl,rfl,h1,h2,h3,h4⟩;dsimp only at h1 h2 h3 h4 ⊢;have f1:∀ i,i < hint + 1 - min pL (hint + 1)->p i = true:=fun i hi=>by
    by_cases g:pL <= hint
    ·exact mono i _ (by omega) (by omega) (h4 g)
    ·omega
   have f2:∀ i,hint - dC <= i->i < n->p i = false:=fun i h5 h6=>yh _ i h5 h6 h3
   have f3:hint + 1 - min pL (hint + 1) <= hint - dC:=by omega
   have f4:hint - dC <= n:=by omega
   have f5:hint - dC - (hint + 1 - min pL (hint + 1)) < n:=by omega
   generalize hint + 1 - min pL (hint + 1) = lo at *;generalize hint - dC = hi at *;refine wpS_bind ?_;rw [range_list];refine wpS_mono (Q:=fun (b:Option (Option Nat) × Nat × Nat) bA=>st = bA/\b.1 = none/\b.2.2 <= n/\(∀ i,i < b.2.2->p i = true)/\(∀ i,b.2.2 <= i->i < n->p i = false))
    (dj (fun k (b:Option (Option Nat) × Nat × Nat) bA=>st = bA/\b.1 = none/\b.2.1 <= b.2.2/\b.2.2 <= n/\(∀ i,i < b.2.1->p i = true)/\(∀ i,b.2.2 <= i->i < n->p i = false)/\k = b.2.2 - b.2.1) ?_ _ (hi - lo) _ _ (by rw [List.length_range'];omega) ⟨rfl,rfl,f3,f4,f1,f2,rfl⟩) ?_
   ·rintro y k ⟨r,l,h⟩ bA ⟨rfl,rfl,g1,g2,g3,g4,g5⟩;dsimp only at g1 g2 g3 g4 g5 ⊢
    by_cases g:l >= h
    ·rw [if_pos g];obtain rfl:l = h:=by omega
     exact wpS_pure ⟨rfl,rfl,g2,g3,g4⟩
    ·rw [if_neg g];obtain ⟨x,hx,mx,px⟩:=CT (l + (h - l) / 2) (by omega);refine wpS_bind (gN L pY hx mx px hk ?_);dsimp only
     cases e2:p (l + (h - l) / 2) with
     | true=>exact wpS_pure ⟨_,show h - (l + (h - l) / 2 + 1) < k by omega,rfl,rfl,by dsimp only;omega,g2,fun i hi=>mono i _ (by dsimp only at hi;omega) (by omega) e2,g4,rfl⟩
     | false=>exact wpS_pure ⟨_,show l + (h - l) / 2 - l < k by omega,rfl,rfl,by dsimp only;omega,by dsimp only;omega,g3,fun i h5 h6=>yh _ i h5 h6 e2,rfl⟩
   ·rintro ⟨r,l,h⟩ bA ⟨rfl,rfl,g1,g2,g3⟩;exact wpS_pure (q h g1 g2 g3)
end
end TS
namespace TS
open PySem PySem.W PyProof.Rows
variable {c:Keyed->Keyed->Bool} {x y:Keyed} {k base n:Nat} {arr:Array Keyed} {st:SortSt}
abbrev gM (c:Keyed->Keyed->Bool) (l:List Keyed):Prop:=l.Pairwise fun x y=>c x y = true
structure LI (M:Keyed->Prop) (c:Keyed->Keyed->Bool) (all out A B:List Keyed):Prop where
 pm:(out ++ (A ++ B)).Perm all
 so:gM c out
 sa:gM c A
 sb:gM c B
 lt:∀ x ∈ out,∀ y ∈ A ++ B,c x y = true
 mm:∀ x ∈ all,M x
 nd:all.Nodup
section
variable {M:Keyed->Prop} {all out A B A1 A2 B1 B2:List Keyed}
theorem LI.memA (h:LI M c all out A B) (hx:x ∈ A):M x:=h.mm x (h.pm.mem_iff.mp (List.mem_append_right _ (List.mem_append_left _ hx)))
theorem LI.memB (h:LI M c all out A B) (hx:x ∈ B):M x:=h.mm x (h.pm.mem_iff.mp (List.mem_append_right _ (List.mem_append_right _ hx)))
theorem LI.ne (h:LI M c all out A B) (hx:x ∈ A) (hy:y ∈ B):x ≠ y:=by
 have:=(h.pm.nodup_iff.mpr h.nd);rw [List.nodup_append] at this;have:=this.2.1;rw [List.nodup_append] at this;exact this.2.2 x hx y hy
theorem LI.takeA (h:LI M c all out (A1 ++ A2) B) (l:∀ x ∈ A1,∀ y ∈ B,c x y = true):LI M c all (out ++ A1) A2 B:=by
 obtain ⟨pm,so,sa,sb,lt,mm,nd⟩:=h;have HC:=List.pairwise_append.mp sa;refine ⟨by rw [List.append_assoc,<- List.append_assoc A1];exact pm,List.pairwise_append.mpr ⟨so,HC.1,fun x hx y hy=>lt x hx y (by simp [hy])⟩,HC.2.1,sb,fun x hx y hy=>?_,mm,nd⟩
 rcases List.mem_append.mp hx with hx | hx
 ·exact lt x hx y (by rw [List.append_assoc];exact List.mem_append_right _ hy)
 ·rcases List.mem_append.mp hy with hy | hy
  ·exact HC.2.2 x hx y hy
  ·exact l x hx y hy
theorem LI.takeB (h:LI M c all out A (B1 ++ B2)) (l:∀ x ∈ B1,∀ y ∈ A,c x y = true):LI M c all (out ++ B1) A B2:=by
 obtain ⟨pm,so,sa,sb,lt,mm,nd⟩:=h;have HB:=List.pairwise_append.mp sb;refine ⟨List.Perm.trans ?_ pm,List.pairwise_append.mpr ⟨so,HB.1,fun x hx y hy=>lt x hx y (by simp [hy])⟩,sa,HB.2.1,fun x hx y hy=>?_,mm,nd⟩
 ·rw [List.append_assoc];refine List.Perm.append_left out ?_;rw [<- List.append_assoc,<- List.append_assoc];exact List.Perm.append_right B2 List.perm_append_comm
 ·rcases List.mem_append.mp hx with hx | hx
  ·refine lt x hx y ?_
   rcases List.mem_append.mp hy with hy | hy
   ·exact List.mem_append_left _ hy
   ·exact List.mem_append_right _ (List.mem_append_right _ hy)
  ·rcases List.mem_append.mp hy with hy | hy
   ·exact l x hx y hy
   ·exact HB.2.2 x hx y hy
theorem LI.finA (h:LI M c all out A B) (e:B = []):(out ++ A ++ B).Perm all/\gM c (out ++ A ++ B):=by
 subst e;refine ⟨by rw [List.append_assoc];exact h.pm,?_⟩;rw [List.append_nil];exact List.pairwise_append.mpr ⟨h.so,h.sa,fun x hx y hy=>h.lt x hx y (by simp [hy])⟩
theorem LI.finB (h:LI M c all out A B) (e:A = []):(out ++ A ++ B).Perm all/\gM c (out ++ A ++ B):=by
 subst e;refine ⟨by rw [List.append_assoc];exact h.pm,?_⟩;rw [List.append_nil];exact List.pairwise_append.mpr ⟨h.so,h.sb,fun x hx y hy=>h.lt x hx y (by simp [hy])⟩
theorem LI.finL (h:LI M c all out A B) (l:∀ x ∈ B,∀ y ∈ A,c x y = true):(out ++ B ++ A).Perm all/\gM c (out ++ B ++ A):=by
 refine ⟨List.Perm.trans ?_ h.pm,?_⟩
 ·rw [List.append_assoc];exact List.Perm.append_left out List.perm_append_comm
 ·rw [List.append_assoc];exact List.pairwise_append.mpr ⟨h.so,List.pairwise_append.mpr ⟨h.sb,h.sa,l⟩,fun x hx y hy=>h.lt x hx y (by
   rcases List.mem_append.mp hy with hy | hy
   ·exact List.mem_append_right _ hy
   ·exact List.mem_append_left _ hy)⟩
end
structure HI (M:Keyed->Prop) (c:Keyed->Keyed->Bool) (all A B out:List Keyed):Prop where
 pm:((A ++ B) ++ out).Perm all
 so:gM c out
 sa:gM c A
 sb:gM c B
 lt:∀ x ∈ A ++ B,∀ y ∈ out,c x y = true
 mm:∀ x ∈ all,M x
 nd:all.Nodup
section
variable {M:Keyed->Prop} {all out A B A1 A2 B1 B2:List Keyed}
theorem HI.memA (h:HI M c all A B out) (hx:x ∈ A):M x:=h.mm x (h.pm.mem_iff.mp (List.mem_append_left _ (List.mem_append_left _ hx)))
theorem HI.memB (h:HI M c all A B out) (hx:x ∈ B):M x:=h.mm x (h.pm.mem_iff.mp (List.mem_append_left _ (List.mem_append_right _ hx)))
theorem HI.ne (h:HI M c all A B out) (hx:x ∈ A) (hy:y ∈ B):x ≠ y:=by
 have:=(h.pm.nodup_iff.mpr h.nd);rw [List.nodup_append] at this;have:=this.1;rw [List.nodup_append] at this;exact this.2.2 x hx y hy
theorem HI.takeA (h:HI M c all (A1 ++ A2) B out) (l:∀ x ∈ B,∀ y ∈ A2,c x y = true):HI M c all A1 B (A2 ++ out):=by
 obtain ⟨pm,so,sa,sb,lt,mm,nd⟩:=h;have HC:=List.pairwise_append.mp sa;refine ⟨List.Perm.trans ?_ pm,List.pairwise_append.mpr ⟨HC.2.1,so,fun x hx y hy=>lt x (by simp [hx]) y hy⟩,HC.1,sb,fun x hx y hy=>?_,mm,nd⟩
 ·rw [<- List.append_assoc];refine List.Perm.append_right out ?_;rw [List.append_assoc,List.append_assoc];exact List.Perm.append_left A1 List.perm_append_comm
 ·rcases List.mem_append.mp hy with hy | hy
  ·rcases List.mem_append.mp hx with hx | hx
   ·exact HC.2.2 x hx y hy
   ·exact l x hx y hy
  ·refine lt x ?_ y hy
   rcases List.mem_append.mp hx with hx | hx
   ·exact List.mem_append_left _ (List.mem_append_left _ hx)
   ·exact List.mem_append_right _ hx
theorem HI.takeB (h:HI M c all A (B1 ++ B2) out) (l:∀ x ∈ A,∀ y ∈ B2,c x y = true):HI M c all A B1 (B2 ++ out):=by
 obtain ⟨pm,so,sa,sb,lt,mm,nd⟩:=h;have HB:=List.pairwise_append.mp sb;refine ⟨by rw [<- List.append_assoc,List.append_assoc A];exact pm,List.pairwise_append.mpr ⟨HB.2.1,so,fun x hx y hy=>lt x (by simp [hx]) y hy⟩,sa,HB.1,fun x hx y hy=>?_,mm,nd⟩
 rcases List.mem_append.mp hy with hy | hy
 ·rcases List.mem_append.mp hx with hx | hx
  ·exact l x hx y hy
  ·exact HB.2.2 x hx y hy
 ·refine lt x ?_ y hy
  rcases List.mem_append.mp hx with hx | hx
  ·exact List.mem_append_left _ hx
  ·exact List.mem_append_right _ (List.mem_append_left _ hx)
theorem HI.finA (h:HI M c all A B out) (e:A = []):(A ++ B ++ out).Perm all/\gM c (A ++ B ++ out):=by
 subst e;refine ⟨h.pm,List.pairwise_append.mpr ⟨h.sb,h.so,fun x hx y hy=>h.lt x hx y hy⟩⟩
theorem HI.finB (h:HI M c all A B out) (e:B = []):(A ++ B ++ out).Perm all/\gM c (A ++ B ++ out):=by
 subst e;refine ⟨h.pm,List.pairwise_append.mpr ⟨by rw [List.append_nil];exact h.sa,h.so,fun x hx y hy=>h.lt x hx y hy⟩⟩
theorem HI.finL (h:HI M c all A B out) (l:∀ x ∈ B,∀ y ∈ A,c x y = true):(B ++ A ++ out).Perm all/\gM c (B ++ A ++ out) :=
 ⟨(List.Perm.append_right out List.perm_append_comm).trans h.pm, List.pairwise_append.mpr ⟨List.pairwise_append.mpr ⟨h.sb, h.sa, l⟩, h.so, fun x hx y hy => h.lt x (by
     rcases List.mem_append.mp hx with hx | hx
     ·exact List.mem_append_right _ hx
     ·exact List.mem_append_left _ hx) y hy⟩⟩
end
section
variable {a:Array Keyed} {i:Nat}
theorem oJ:(a.extract i (i + k)).toList = (a.toList.drop i).take k:=by
 rw [Array.toList_extract,List.extract_eq_take_drop]
 congr 1
 omega
theorem kF:(a.extract i).toList = a.toList.drop i:=by
 rw [Array.toList_extract,List.extract_eq_take_drop,List.take_of_length_le];rw [List.length_drop,Array.length_toList];exact Nat.le_refl _
theorem jw (h:i < a.size):∃ x,a[i]? = some x/\a.toList.drop i = x :: a.toList.drop (i + 1) :=
 ⟨a[i],Array.getElem?_eq_getElem h,by rw [<- Array.getElem_toList];exact List.drop_eq_getElem_cons (by rw [Array.length_toList];exact h)⟩
theorem oP:a.toList.drop i = (a.toList.drop i).take k ++ a.toList.drop (i + k):=by
 rw [<- List.drop_drop];exact (List.take_append_drop k _).symm
theorem qV (h:a.size <= i):a.toList.drop i = []:=List.drop_eq_nil_of_le (by rw [Array.length_toList];exact h)
end
local macro_rules | `(term| type_of% $n:ident) => return Lean.mkIdent (Lean.mkPrivateNameCore `PySem.Builtin.List.W1All (`PySem.Builtin ++ n.getId))
local macro_rules | `(tactic| delta $n:ident) => if Lean.isPrivateName n.getId then Lean.Macro.throwUnsupported else `(tactic| delta $(Lean.mkIdent (Lean.mkPrivateNameCore `PySem.Builtin.List.W1All (`PySem.Builtin ++ n.getId))):ident)
section
variable {prog:Program} {w:World} {A:Around} {s:Shared} {E:Value->Shared->Prop} {κ:SortKind} {M:Keyed->Prop}
theorem seg_at (hn:base + n <= arr.size) {i:Nat} (hi:i < n):∃ (h:i < ((arr.toList.drop base).take n).length),arr[base + i]? = some (((arr.toList.drop base).take n)[i]):=by
 have h:i < ((arr.toList.drop base).take n).length:=by
  rw [List.length_take,List.length_drop,Array.length_toList];omega
 refine ⟨h,?_⟩;rw [List.getElem_take,List.getElem_drop,<- Array.getElem?_toList,List.getElem?_eq_getElem]
theorem tO {l:List Keyed} (hk:k <= n) (h:x ∈ l.take k):∃ i,∃ hi:i < (l.take n).length,i < k/\(l.take n)[i] = x:=by
 obtain ⟨i,hi,e⟩:=List.getElem_of_mem h;rw [List.length_take] at hi;refine ⟨i,by rw [List.length_take];omega,by omega,?_⟩;rw [List.getElem_take] at e ⊢;exact e
theorem vw {l:List Keyed} (h:x ∈ l.drop k):∃ i,∃ hi:i < l.length,k <= i/\l[i] = x:=by
 obtain ⟨i,hi,e⟩:=List.getElem_of_mem h;rw [List.length_drop] at hi;rw [List.getElem_drop] at e;exact ⟨k + i,by omega,by omega,e⟩
theorem lL (L : tF prog w A s κ M c) {hint : Nat} {Q : Option Nat -> SortSt -> Prop} (hn : base + n <= arr.size) (hs : gM c ((arr.toList.drop base).take n))
    (hm:∀ x ∈ (arr.toList.drop base).take n,M x) (my:M y) (hh:hint < n) (hk:PyProof.Rows.kindOf st = κ)
    (q:∀ k,k <= n->(∀ x ∈ (arr.toList.drop base).take k,c y x = false)->(∀ x ∈ ((arr.toList.drop base).take n).drop k,c y x = true)->Q (some k) st) :
    wpS (model prog w) A E s (kg false y arr base n hint) Q st:=by
 have hl:((arr.toList.drop base).take n).length = n:=by rw [List.length_take,List.length_drop,Array.length_toList];omega
 have pg:=List.pairwise_iff_getElem.mp hs;refine qe L (fun i=>!(c y (((arr.toList.drop base).take n).getD i y))) my (fun i hi=>?_) hh (fun i j vo hj e=>?_) hk fun k L3 f1 f2=>q k L3 (fun x hx=>?_) fun x hx=>?_
 ·obtain ⟨h1,h2⟩:=seg_at hn hi;refine ⟨_,h2,hm _ (List.getElem_mem h1),?_⟩;rw [List.getD_eq_getElem?_getD,List.getElem?_eq_getElem h1]
  rfl
 ·have hi:i < ((arr.toList.drop base).take n).length:=by omega
  have hj:j < ((arr.toList.drop base).take n).length:=by omega
  rw [List.getD_eq_getElem?_getD,List.getElem?_eq_getElem hi];rw [List.getD_eq_getElem?_getD,List.getElem?_eq_getElem hj] at e;simp only [Option.getD_some,Bool.not_eq_true'] at e ⊢
  by_cases g:i = j
  ·subst g;exact e
  ·cases z:c y (((arr.toList.drop base).take n)[i]) with
   | false=>rfl
   | true=>rw [L.trans _ _ _ my (hm _ (List.getElem_mem hi)) (hm _ (List.getElem_mem hj)) z (pg i j hi hj (by omega))] at e;cases e
 ·obtain ⟨i,hi,h1,rfl⟩:=tO L3 hx;have:=f1 i h1;rw [List.getD_eq_getElem?_getD,List.getElem?_eq_getElem hi] at this;simpa using this
 ·obtain ⟨i,hi,h1,rfl⟩:=vw hx;have:=f2 i h1 (by omega);rw [List.getD_eq_getElem?_getD,List.getElem?_eq_getElem hi] at this;simpa using this
theorem oF (L : tF prog w A s κ M c) {hint : Nat} {Q : Option Nat -> SortSt -> Prop} (hn : base + n <= arr.size) (hs : gM c ((arr.toList.drop base).take n))
    (hm:∀ x ∈ (arr.toList.drop base).take n,M x) (my:M y) (hh:hint < n) (hk:PyProof.Rows.kindOf st = κ)
    (q:∀ k,k <= n->(∀ x ∈ (arr.toList.drop base).take k,c x y = true)->(∀ x ∈ ((arr.toList.drop base).take n).drop k,c x y = false)->Q (some k) st) :
    wpS (model prog w) A E s (kg true y arr base n hint) Q st:=by
 have hl:((arr.toList.drop base).take n).length = n:=by rw [List.length_take,List.length_drop,Array.length_toList];omega
 have pg:=List.pairwise_iff_getElem.mp hs;refine qe L (fun i=>c (((arr.toList.drop base).take n).getD i y) y) my (fun i hi=>?_) hh (fun i j vo hj e=>?_) hk fun k L3 f1 f2=>q k L3 (fun x hx=>?_) fun x hx=>?_
 ·obtain ⟨h1,h2⟩:=seg_at hn hi;refine ⟨_,h2,hm _ (List.getElem_mem h1),?_⟩;rw [List.getD_eq_getElem?_getD,List.getElem?_eq_getElem h1]
  rfl
 ·have hi:i < ((arr.toList.drop base).take n).length:=by omega
  have hj:j < ((arr.toList.drop base).take n).length:=by omega
  rw [List.getD_eq_getElem?_getD,List.getElem?_eq_getElem hi];rw [List.getD_eq_getElem?_getD,List.getElem?_eq_getElem hj] at e;simp only [Option.getD_some] at e ⊢
  by_cases g:i = j
  ·subst g;exact e
  ·exact L.trans _ _ _ (hm _ (List.getElem_mem hi)) (hm _ (List.getElem_mem hj)) my (pg i j hi hj (by omega)) e
 ·obtain ⟨i,hi,h1,rfl⟩:=tO L3 hx;have:=f1 i h1;rw [List.getD_eq_getElem?_getD,List.getElem?_eq_getElem hi] at this;simpa using this
 ·obtain ⟨i,hi,h1,rfl⟩:=vw hx;have:=f2 i h1 (by omega);rw [List.getD_eq_getElem?_getD,List.getElem?_eq_getElem hi] at this;simpa using this
abbrev Gs (st:SortSt) (g:Nat):SortSt:=SortSt.mk' (PyProof.Rows.kindOf st) (arrOf st) (pendingOf st) g (failedOf st)
theorem rF {g g':Nat} {Q:Unit->SortSt->Prop} (q:Q () (Gs st g)):wpS (model prog w) A E s (FV g) Q (Gs st g'):=by
 unfold FV
 delta setMinGallop
 exact wpS_modify q
theorem jj {n:String} {Q:Unit->SortSt->Prop} (q:Q () st):wpS (model prog w) A E s (liftM (rule n)) Q st:=by
 refine wpS_lift ?_;exact wpAny_rule ⟨rfl,q⟩
end
end TS
namespace TS
open PySem.W PyProof.Rows
theorem aA {Md:PySem.Model} {A:PySem.Around} {E:PySem.Value->PySem.Shared->Prop} {s:PySem.Shared} {σ α:Type} {p:Prop} [Decidable p] {x y:StateT σ PySem.Sem α} {Q:α->σ->Prop} {st:σ} (h1:p->wpS Md A E s x Q st) (h2:¬ p->wpS Md A E s y Q st):wpS Md A E s (if p then x else y) Q st:=by
 by_cases h:p
 ·rw [if_pos h];exact h1 h
 ·rw [if_neg h];exact h2 h
end TS
namespace TS
local macro_rules | `(tactic| lcg_src) => `(tactic| try dsimp (zeta := false) (zetaUnused := false) only)
local macro_rules | `(tactic| lcg_sub) => `(tactic| (extract_lets +onlyGivenNames -underBinder -merge -useContext zz; subst zz; try dsimp (zeta := false) (zetaUnused := false) only))
open PySem PySem.W PyProof.Rows
local macro_rules | `(term| type_of% $n:ident) => return Lean.mkIdent (Lean.mkPrivateNameCore `PySem.Builtin.List.W1All (`PySem.Builtin ++ n.getId))
local macro_rules | `(tactic| delta $n:ident) => if Lean.isPrivateName n.getId then Lean.Macro.throwUnsupported else `(tactic| delta $(Lean.mkIdent (Lean.mkPrivateNameCore `PySem.Builtin.List.W1All (`PySem.Builtin ++ n.getId))):ident)
section
variable {prog:Program} {w:World} {A:Around} {s:Shared} {E:Value->Shared->Prop} {κ:SortKind} {M:Keyed->Prop} {c:Keyed->Keyed->Bool}
variable {a b:Array Keyed} {all:List Keyed}
theorem FD {x:Keyed} {l:List Keyed} (h:gM c (x :: l)):∀ z ∈ l,c x z = true:=(List.pairwise_cons.mp h).1
theorem iZ (L:tF prog w A s κ M c) {x y:Keyed} {l:List Keyed} (h:gM c (x :: l)) (mx:M x) (my:M y) (ml:∀ z ∈ l,M z) (e:c y x = true):∀ z ∈ x :: l,c y z = true:=fun z hz=>by
 rcases List.mem_cons.mp hz with rfl | hz
 ·exact e
 ·exact L.trans _ _ _ my mx (ml z hz) e (FD h z hz)
abbrev Of (M:Keyed->Prop) (c:Keyed->Keyed->Bool) (all:List Keyed) (a b:Array Keyed) (st:SortSt) (k:Nat) (r:Option (Array Keyed) × Array Keyed × Nat × Nat × Nat × Nat × Nat) (bA:SortSt):Prop :=
 ∃ g,bA = Gs st g/\((∃ out,r.1 = some out/\out.toList.Perm all/\gM c out.toList) \/ (r.1 = none/\LI M c all r.2.1.toList (a.toList.drop r.2.2.1) (b.toList.drop r.2.2.2.1)/\r.2.2.1 + 1 < a.size/\r.2.2.2.1 < b.size/\0 < r.2.2.2.1/\a.size - r.2.2.1 + (b.size - r.2.2.2.1) < k))
abbrev Oe (M:Keyed->Prop) (c:Keyed->Keyed->Bool) (all:List Keyed) (a b:Array Keyed) (st:SortSt) (k k':Nat) (r:Option (Array Keyed) × Array Keyed × Nat × Nat × Nat × Nat × Nat) (bA:SortSt):Prop :=
 ∃ g,bA = Gs st g/\r.1 = none/\LI M c all r.2.1.toList (a.toList.drop r.2.2.1) (b.toList.drop r.2.2.2.1)/\r.2.2.1 + 1 < a.size/\r.2.2.2.1 < b.size/\0 < r.2.2.2.1/\k' = a.size - r.2.2.1 + (b.size - r.2.2.2.1)/\k' < k
theorem Ky (L : tF prog w A s κ M c) {st : SortSt} {Q : Array Keyed -> SortSt -> Prop} (h : LI M c all [] a.toList b.toList) (na : 0 < a.size) (nb : 0 < b.size)
    (h0:∀ x,b[0]? = some x->∀ y ∈ a.toList,c x y = true) (hl:∀ x ∈ b.toList,∀ y ∈ a.toList.drop (a.size - 1),c x y = true) (hk:PyProof.Rows.kindOf st = κ)
    (q:∀ r g,r.toList.Perm all->gM c r.toList->Q r (Gs st g)):wpS (model prog w) A E s (KA a b) Q st:=by
 have eD:∀ (out:Array Keyed) ia ib,(out ++ a.extract ia ++ b.extract ib).toList = out.toList ++ a.toList.drop ia ++ b.toList.drop ib:=fun out ia ib=>by
  rw [Array.toList_append,Array.toList_append,kF,kF]
 have eL:∀ (out:Array Keyed) ia ib,(out ++ b.extract ib ++ a.extract ia).toList = out.toList ++ b.toList.drop ib ++ a.toList.drop ia:=fun out ia ib=>by
  rw [Array.toList_append,Array.toList_append,kF,kF]
 have yl:∀ {out:Array Keyed} {ia ib:Nat},LI M c all out.toList (a.toList.drop ia) (b.toList.drop ib)->ia + 1 = a.size->(out ++ b.extract ib ++ a.extract ia).toList.Perm all/\gM c (out ++ b.extract ib ++ a.extract ia).toList:=fun {out ia ib} h e=>by
  rw [eL];refine h.finL fun x hx y hy=>hl x (List.mem_of_mem_drop hx) y ?_
  rw [show a.size - 1 = ia by omega];exact hy
 have qW:∀ {out:Array Keyed} {ia ib:Nat},LI M c all out.toList (a.toList.drop ia) (b.toList.drop ib)->ib = b.size->(out ++ a.extract ia ++ b.extract ib).toList.Perm all/\gM c (out ++ a.extract ia ++ b.extract ib).toList:=fun {out ia ib} h e=>by
  rw [eD];exact h.finA (qV (by omega))
 have qX:∀ {out:Array Keyed} {ia ib:Nat},LI M c all out.toList (a.toList.drop ia) (b.toList.drop ib)->ia = a.size->(out ++ a.extract ia ++ b.extract ib).toList.Perm all/\gM c (out ++ a.extract ia ++ b.extract ib).toList:=fun {out ia ib} h e=>by
  rw [eD];exact h.finB (qV (by omega))
 have JB:∀ g,PyProof.Rows.kindOf (Gs st g) = κ:=fun _=>hk
 unfold KA
 delta mergeLo
 lcg_src;refine wpS_bind (jj ?_);obtain ⟨b0,Kq,Oa⟩:=jw (a:=b) nb;refine wpS_bind (aY Kq ?_);have i1:LI M c all (#[b0]:Array Keyed).toList (a.toList.drop 0) (b.toList.drop 1):=by
  have:=LI.takeB (out:=[]) (A:=a.toList) (B1:=[b0]) (B2:=b.toList.drop 1) (by rw [List.drop_zero] at Oa;rw [Oa] at h;exact h) fun x hx y hy=>by
   rw [List.mem_singleton.mp hx];exact h0 b0 Kq y hy
  exact this
 by_cases e1:1 = b.size
 ·rw [if_pos (by rw [<- e1];rfl)];have:=qW i1 e1;exact wpS_pure (q _ (gallopOf st) this.1 this.2)
 rw [if_neg (by simpa using e1)]
 by_cases e2:0 + 1 = a.size
 ·rw [if_pos (by rw [<- e2];rfl)];have:=yl i1 e2;exact wpS_pure (q _ (gallopOf st) this.1 this.2)
 rw [if_neg (by simpa using e2)];refine wpS_bind (wpS_get ?_);refine wpS_bind ?_;rw [range_list];refine wpS_mono (Q:=fun (r:Option (Array Keyed) × Array Keyed × Nat × Nat × Nat) bA=>∃ out g,r.1 = some out/\bA = Gs st g/\out.toList.Perm all/\gM c out.toList)
  (dj (fun k (r:Option (Array Keyed) × Array Keyed × Nat × Nat × Nat) bA=>∃ g,bA = Gs st g/\r.1 = none/\LI M c all r.2.1.toList (a.toList.drop r.2.2.1) (b.toList.drop r.2.2.2.1)/\r.2.2.1 + 1 < a.size/\r.2.2.2.1 < b.size/\0 < r.2.2.2.1/\k = a.size - r.2.2.1 + (b.size - r.2.2.2.1)) ?_ _ (a.size + (b.size - 1)) _ _ (by rw [List.length_range'];omega) ⟨gallopOf st,rfl,rfl,i1,by dsimp only;omega,by dsimp only;omega,Nat.one_pos,by dsimp only;omega⟩) ?_
 ·rintro _ k ⟨r0,out,ia,ib,mg⟩ bA ⟨g,rfl,rfl,i2,ha,hb,hp,vn⟩;dsimp only at i2 ha hb hp vn
  (lcg_src;lcg_sub;lcg_sub;lcg_sub;lcg_sub;lcg_sub;lcg_sub;lcg_sub;lcg_sub;lcg_sub)
  refine wpS_bind ?_;rw [range_list];refine wpS_mono (Q:=fun (r:Option (Array Keyed) × Array Keyed × Nat × Nat × Nat × Nat) bA=>bA = Gs st g/\((∃ out,r.1 = some out/\out.toList.Perm all/\gM c out.toList) \/ (r.1 = none/\LI M c all r.2.1.toList (a.toList.drop r.2.2.1) (b.toList.drop r.2.2.2.1)/\r.2.2.1 + 1 < a.size/\r.2.2.2.1 < b.size/\0 < r.2.2.2.1/\a.size - r.2.2.1 + (b.size - r.2.2.2.1) < k)))
   (dj (fun k' (r:Option (Array Keyed) × Array Keyed × Nat × Nat × Nat × Nat) bA=>bA = Gs st g/\r.1 = none/\LI M c all r.2.1.toList (a.toList.drop r.2.2.1) (b.toList.drop r.2.2.2.1)/\r.2.2.1 + 1 < a.size/\r.2.2.2.1 < b.size/\0 < r.2.2.2.1/\k' = a.size - r.2.2.1 + (b.size - r.2.2.2.1)/\k' <= k) ?_ _ k _ _ ?_ ⟨rfl,rfl,i2,ha,hb,hp,vn,Nat.le_refl _⟩) ?_
  ·rintro _ k' ⟨r0,out,ia,ib,ac,bc⟩ bA ⟨rfl,rfl,i3,ha,hb,hp,ng,Ux⟩;dsimp only at i3 ha hb hp ng
   (lcg_src;lcg_sub;lcg_sub;lcg_sub;lcg_sub;lcg_sub;lcg_sub;lcg_sub;lcg_sub;lcg_sub)
   obtain ⟨y,hy,dy⟩:=jw hb;obtain ⟨x,hx,dx⟩:=jw (show ia < a.size by omega);have my:M y:=i3.memB (by rw [dy];exact List.mem_cons_self);have mx:M x:=i3.memA (by rw [dx];exact List.mem_cons_self);refine wpS_bind (aY hy (wpS_bind (aY hx (wpS_bind (tK L my mx (JB g) ?_)))));lcg_src
   cases e:c y x with
   | true =>
    rw [if_pos rfl];refine wpS_bind (aY hy ?_);have i4:LI M c all (out.push y).toList (a.toList.drop ia) (b.toList.drop (ib + 1)):=by
     rw [Array.toList_push];rw [dy] at i3;refine LI.takeB (B1:=[y]) i3 fun z hz v hv=>?_
     rw [List.mem_singleton.mp hz];rw [dx] at hv i3;exact iZ L i3.sa mx my (fun z hz=>i3.memA (List.mem_cons_of_mem _ hz)) e v hv
    by_cases e1:ib + 1 = b.size
    ·rw [if_pos (by rw [<- e1];exact beq_self_eq_true _)];exact wpS_pure ⟨rfl,.inl ⟨_,rfl,qW i4 e1⟩⟩
    ·rw [if_neg (by simpa using e1)]
     split
     ·exact wpS_pure ⟨rfl,.inr ⟨rfl,i4,by dsimp only;omega,by dsimp only;omega,by dsimp only;omega,by dsimp only;omega⟩⟩
     ·exact wpS_pure ⟨_,show a.size - ia + (b.size - (ib + 1)) < k' by omega,rfl,rfl,i4,by dsimp only;omega,by dsimp only;omega,by dsimp only;omega,rfl,by omega⟩
   | false =>
    rw [if_neg (by decide)];refine wpS_bind (aY hx ?_);have e':c x y = true:=L.tot _ _ my mx (fun z=>i3.ne (x:=x) (y:=y) (by rw [dx];exact List.mem_cons_self) (by rw [dy];exact List.mem_cons_self) z.symm) e
    have i4:LI M c all (out.push x).toList (a.toList.drop (ia + 1)) (b.toList.drop ib):=by
     rw [Array.toList_push];rw [dx] at i3;refine LI.takeA (A1:=[x]) i3 fun z hz v hv=>?_
     rw [List.mem_singleton.mp hz];rw [dy] at hv i3;exact iZ L i3.sb my mx (fun z hz=>i3.memB (List.mem_cons_of_mem _ hz)) e' v hv
    by_cases e1:ia + 1 + 1 = a.size
    ·rw [if_pos (by rw [<- e1];exact beq_self_eq_true _)];exact wpS_pure ⟨rfl,.inl ⟨_,rfl,yl i4 e1⟩⟩
    ·rw [if_neg (by simpa using e1)]
     split
     ·exact wpS_pure ⟨rfl,.inr ⟨rfl,i4,by dsimp only;omega,by dsimp only;omega,by dsimp only;omega,by dsimp only;omega⟩⟩
     ·exact wpS_pure ⟨_,show a.size - (ia + 1) + (b.size - ib) < k' by omega,rfl,rfl,i4,by dsimp only;omega,by dsimp only;omega,by dsimp only;omega,rfl,by omega⟩
  ·rw [List.length_range'];omega
  ·rintro ⟨r0,out,ia,ib,ac,bc⟩ bA ⟨rfl,⟨o,rfl,p1,p2⟩ | ⟨rfl,i3,ha,hb,hp,ng⟩⟩
   ·exact wpS_pure ⟨o,g,rfl,rfl,p1,p2⟩
   dsimp only at i3 ha hb hp ng
   (lcg_src;lcg_sub;lcg_sub;lcg_sub;lcg_sub;lcg_sub;lcg_sub;lcg_sub;lcg_sub;lcg_sub;lcg_sub)
   refine wpS_bind (jj ?_);refine wpS_bind ?_;rw [range_list];refine wpS_mono (Q:=Of M c all a b st k)
    (dj (Oe M c all a b st k) ?_ _ _ _ _ ?_ ⟨g,rfl,rfl,i3,ha,hb,hp,rfl,ng⟩) ?_
   ·rintro _ k' ⟨r0,out,ia,ib,mg,ac,bc⟩ bA ⟨g,rfl,rfl,i3,ha,hb,hp,ng,Ux⟩;dsimp only at i3 ha hb hp ng
    (lcg_src;lcg_sub;lcg_sub;lcg_sub;lcg_sub;lcg_sub;lcg_sub;lcg_sub;lcg_sub;lcg_sub;lcg_sub;lcg_sub)
    (extract_lets +onlyGivenNames -underBinder -merge -useContext J1;clear_value (UT:J1 = _))
    have j1:∀ E6,wpS (model prog w) A E s (J1 () E6) (Dt (Of M c all a b st k) fun r bA=>∃ vh,vh < k'/\Oe M c all a b st k vh r bA) (Gs st g):=fun E6=>by
     rw [UT];lcg_src;refine wpS_bind (rF ?_);obtain ⟨y,hy,dy⟩:=jw hb;have my:M y:=i3.memB (by rw [dy];exact List.mem_cons_self);refine wpS_bind (aY hy ?_);have tA:(a.toList.drop ia).take (a.size - ia) = a.toList.drop ia:=List.take_of_length_le (by rw [List.length_drop,Array.length_toList];exact Nat.le_refl _);refine wpS_bind (lL L (by omega) (by rw [tA];exact i3.sa) (fun x hx=>i3.memA (by rw [tA] at hx;exact hx)) my (by omega) (JB _) fun k1 CP f1 f2=>?_)
     rw [tA,List.drop_drop] at f2;have Ki:y ∈ b.toList.drop ib:=by rw [dy];exact List.mem_cons_self
     have i4:LI M c all (out.toList ++ (a.toList.drop ia).take k1) (a.toList.drop (ia + k1)) (b.toList.drop ib):=by
      rw [oP (k:=k1)] at i3;refine i3.takeA fun x hx v hv=>?_
      have mx:M x:=i3.memA (List.mem_append_left _ hx);have e':=L.tot _ _ my mx (fun z=>i3.ne (List.mem_append_left _ hx) Ki z.symm) (f1 x hx)
      rw [dy] at hv i3;exact iZ L i3.sb my mx (fun z hz=>i3.memB (List.mem_cons_of_mem _ hz)) e' v hv
     (lcg_src;lcg_sub)
     (extract_lets +onlyGivenNames -underBinder -merge -useContext J2;clear_value (JG:J2 = _))
     have j2:∀ (lC:Array Keyed) (yn:Nat),ia <= yn->LI M c all lC.toList (a.toList.drop yn) (b.toList.drop ib)->(∀ x ∈ a.toList.drop yn,c y x = true)->yn + 1 < a.size->wpS (model prog w) A E s (J2 () lC yn) (Dt (Of M c all a b st k) fun r bA=>∃ vh,vh < k'/\Oe M c all a b st k vh r bA) (Gs st E6):=fun lC yn hle i5 f3 xD=>by
      rw [JG];lcg_src;refine wpS_bind (aY hy ?_)
      (lcg_src;lcg_sub;lcg_sub)
      have i6:LI M c all (lC.push y).toList (a.toList.drop yn) (b.toList.drop (ib + 1)):=by
       rw [Array.toList_push];rw [dy] at i5;refine LI.takeB (B1:=[y]) i5 fun z hz v hv=>?_
       rw [List.mem_singleton.mp hz];exact f3 v hv
      refine aA (fun e1=>wpS_pure ⟨_,rfl,.inl ⟨_,rfl,qW i6 (eq_of_beq e1)⟩⟩) fun e1=>?_
      have e1:ib + 1 ≠ b.size:=by simpa using e1
      obtain ⟨x,hx,dx⟩:=jw (show yn < a.size by omega);have DG:x ∈ a.toList.drop yn:=by rw [dx];exact List.mem_cons_self
      have mx:M x:=i6.memA DG;refine wpS_bind (aY hx ?_);have tB:(b.toList.drop (ib + 1)).take (b.size - (ib + 1)) = b.toList.drop (ib + 1):=List.take_of_length_le (by rw [List.length_drop,Array.length_toList];exact Nat.le_refl _);refine wpS_bind (oF L (by omega) (by rw [tB];exact i6.sb) (fun x hx=>i6.memB (by rw [tB] at hx;exact hx)) mx (by omega) (JB _) fun k2 L4 f4 f5=>?_)
      rw [tB,List.drop_drop] at f5;have i7:LI M c all ((lC.push y).toList ++ (b.toList.drop (ib + 1)).take k2) (a.toList.drop yn) (b.toList.drop (ib + 1 + k2)):=by
       rw [oP (i:=ib + 1) (k:=k2)] at i6;refine i6.takeB fun z hz v hv=>?_
       have mz:M z:=i6.memB (List.mem_append_left _ hz);rw [dx] at hv i6;exact iZ L i6.sa mx mz (fun z hz=>i6.memA (List.mem_cons_of_mem _ hz)) (f4 z hz) v hv
      (lcg_src;lcg_sub)
      (extract_lets +onlyGivenNames -underBinder -merge -useContext J3;clear_value (Mj:J3 = _))
      have j3:∀ (rV:Array Keyed) (GL:Nat),ib + 1 <= GL->LI M c all rV.toList (a.toList.drop yn) (b.toList.drop GL)->(∀ z ∈ b.toList.drop GL,c z x = false)->GL < b.size->wpS (model prog w) A E s (J3 () rV GL) (Dt (Of M c all a b st k) fun r bA=>∃ vh,vh < k'/\Oe M c all a b st k vh r bA) (Gs st E6):=fun rV GL Uv i8 f6 hb3=>by
       rw [Mj];lcg_src;refine wpS_bind (aY hx ?_)
       (lcg_src;lcg_sub;lcg_sub)
       have i9:LI M c all (rV.push x).toList (a.toList.drop (yn + 1)) (b.toList.drop GL):=by
        rw [Array.toList_push];rw [dx] at i8;refine LI.takeA (A1:=[x]) i8 fun z hz v hv=>?_
        rw [List.mem_singleton.mp hz];exact L.tot _ _ (i8.memB hv) mx (fun z=>i8.ne (x:=x) List.mem_cons_self hv z.symm) (f6 v hv)
       refine aA (fun e1=>wpS_pure ⟨_,rfl,.inl ⟨_,rfl,yl i9 (eq_of_beq e1)⟩⟩) fun e1=>?_
       have e1:yn + 1 + 1 ≠ a.size:=by simpa using e1
       refine aA (fun _=>wpS_pure ⟨_,rfl,.inr ⟨rfl,i9,by dsimp only;omega,by dsimp only;omega,by dsimp only;omega,by dsimp only;omega⟩⟩) fun _=>?_
       exact wpS_pure ⟨_,show a.size - (yn + 1) + (b.size - GL) < k' by omega,_,rfl,rfl,i9,by dsimp only;omega,by dsimp only;omega,by dsimp only;omega,rfl,by omega⟩
      refine aA (fun g1=>?_) fun g1=>?_
      ·(lcg_src;lcg_sub;lcg_sub)
       have e0:(lC.push y ++ b.extract (ib + 1) (ib + 1 + k2)).toList = (lC.push y).toList ++ (b.toList.drop (ib + 1)).take k2:=by rw [Array.toList_append,oJ]
       rw [<- e0] at i7;refine aA (fun e1=>wpS_pure ⟨_,rfl,.inl ⟨_,rfl,qW i7 (eq_of_beq e1)⟩⟩) fun e1=>?_
       have e1:ib + 1 + k2 ≠ b.size:=by simpa using e1
       exact j3 _ _ (by omega) i7 f5 (by omega)
      ·obtain rfl:k2 = 0:=by omega
       exact j3 _ _ (Nat.le_refl _) i6 f5 (by omega)
     refine aA (fun g1=>?_) fun g1=>?_
     ·(lcg_src;lcg_sub;lcg_sub)
      have e0:(out ++ a.extract ia (ia + k1)).toList = out.toList ++ (a.toList.drop ia).take k1:=by rw [Array.toList_append,oJ]
      rw [<- e0] at i4;refine aA (fun e1=>wpS_pure ⟨_,rfl,.inl ⟨_,rfl,yl i4 (eq_of_beq e1)⟩⟩) fun e1=>?_
      have e1:ia + k1 + 1 ≠ a.size:=by simpa using e1
      refine aA (fun e2=>wpS_pure ⟨_,rfl,.inl ⟨_,rfl,qX i4 (eq_of_beq e2)⟩⟩) fun e2=>?_
      have e2:ia + k1 ≠ a.size:=by simpa using e2
      exact j2 _ _ (by omega) i4 f2 (by omega)
     ·obtain rfl:k1 = 0:=by omega
      exact j2 _ _ (Nat.le_refl _) i3 f2 ha
    exact aA (fun _=>j1 _) fun _=>j1 _
   ·rw [List.length_range'];dsimp only;omega
   ·rintro ⟨r0,out,ia,ib,mg,ac,bc⟩ bA ⟨g,rfl,⟨o,rfl,p1,p2⟩ | ⟨rfl,i3,ha,hb,hp,ng⟩⟩
    ·exact wpS_pure ⟨o,g,rfl,rfl,p1,p2⟩
    ·dsimp only at i3 ha hb hp ng
     (lcg_src;lcg_sub;lcg_sub;lcg_sub;lcg_sub;lcg_sub;lcg_sub;lcg_sub;lcg_sub;lcg_sub;lcg_sub)
     refine wpS_bind (rF ?_);exact wpS_pure ⟨_,ng,_,rfl,rfl,i3,ha,hb,hp,rfl⟩
 ·rintro ⟨r0,out,ia,ib,mg⟩ bA ⟨o,g,rfl,rfl,p1,p2⟩;exact wpS_pure (q o g p1 p2)
end
end TS
namespace TS
variable {n:Nat}
local macro_rules | `(tactic| lcg_src) => `(tactic| try dsimp (zeta := false) (zetaUnused := false) only)
local macro_rules | `(tactic| lcg_sub) => `(tactic| (extract_lets +onlyGivenNames -underBinder -merge -useContext zz; subst zz; try dsimp (zeta := false) (zetaUnused := false) only))
open PySem PySem.W PyProof.Rows
local macro_rules | `(term| type_of% $n:ident) => return Lean.mkIdent (Lean.mkPrivateNameCore `PySem.Builtin.List.W1All (`PySem.Builtin ++ n.getId))
local macro_rules | `(tactic| delta $n:ident) => if Lean.isPrivateName n.getId then Lean.Macro.throwUnsupported else `(tactic| delta $(Lean.mkIdent (Lean.mkPrivateNameCore `PySem.Builtin.List.W1All (`PySem.Builtin ++ n.getId))):ident)
section
variable {prog:Program} {w:World} {A:Around} {s:Shared} {E:Value->Shared->Prop} {κ:SortKind} {M:Keyed->Prop} {c:Keyed->Keyed->Bool}
variable {a b:Array Keyed} {all:List Keyed}
theorem kE:(a.extract 0 n).toList = a.toList.take n:=by
 rw [Array.toList_extract,List.extract_eq_take_drop,List.drop_zero];rfl
theorem yC {i:Nat}:(a.extract i n).toList = (a.toList.take n).drop i:=by
 rw [Array.toList_extract,List.extract_eq_take_drop,List.drop_take]
theorem jl (h0:0 < n) (h:n <= a.size):∃ x,a[n - 1]? = some x/\a.toList.take n = a.toList.take (n - 1) ++ [x]:=by
 have h1:n - 1 < a.toList.length:=by rw [Array.length_toList];omega
 refine ⟨a.toList[n - 1],by rw [<- Array.getElem?_toList,List.getElem?_eq_getElem h1],?_⟩;have:=List.take_append_getElem (l:=a.toList) (i:=n - 1) h1;rw [show n - 1 + 1 = n by omega] at this;exact this.symm
theorem ny {i:Nat} (h:i <= n):a.toList.take n = a.toList.take i ++ (a.toList.take n).drop i:=by
 have:=(List.take_append_drop i (a.toList.take n)).symm;rw [List.take_take,Nat.min_eq_left h] at this;exact this
theorem iW (L:tF prog w A s κ M c) {x y:Keyed} {l:List Keyed} (h:gM c (l ++ [x])) (mx:M x) (my:M y) (ml:∀ z ∈ l,M z) (e:c x y = true):∀ z ∈ l ++ [x],c z y = true:=fun z hz=>by
 rcases List.mem_append.mp hz with hz | hz
 ·exact L.trans _ _ _ (ml z hz) mx my ((List.pairwise_append.mp h).2.2 z hz x List.mem_cons_self) e
 ·rw [List.mem_singleton.mp hz];exact e
abbrev Oi (M:Keyed->Prop) (c:Keyed->Keyed->Bool) (all:List Keyed) (a b:Array Keyed) (st:SortSt) (k:Nat) (r:Option (Array Keyed) × Nat × Nat × Array Keyed × Nat × Nat × Nat) (bA:SortSt):Prop :=
 ∃ g,bA = Gs st g/\((∃ out,r.1 = some out/\out.toList.Perm all/\gM c out.toList) \/ (r.1 = none/\HI M c all (a.toList.take r.2.1) (b.toList.take r.2.2.1) r.2.2.2.1.toList.reverse/\0 < r.2.1/\r.2.1 < a.size/\1 < r.2.2.1/\r.2.2.1 <= b.size/\r.2.1 + r.2.2.1 < k))
abbrev Oh (M:Keyed->Prop) (c:Keyed->Keyed->Bool) (all:List Keyed) (a b:Array Keyed) (st:SortSt) (k k':Nat) (r:Option (Array Keyed) × Nat × Nat × Array Keyed × Nat × Nat × Nat) (bA:SortSt):Prop :=
 ∃ g,bA = Gs st g/\r.1 = none/\HI M c all (a.toList.take r.2.1) (b.toList.take r.2.2.1) r.2.2.2.1.toList.reverse/\0 < r.2.1/\r.2.1 < a.size/\1 < r.2.2.1/\r.2.2.1 <= b.size/\k' = r.2.1 + r.2.2.1/\k' < k
theorem Kz (L : tF prog w A s κ M c) {st : SortSt} {Q : Array Keyed -> SortSt -> Prop} (h : HI M c all a.toList b.toList []) (na : 0 < a.size) (nb : 0 < b.size)
    (h0:∀ x ∈ b.toList.take 1,∀ y ∈ a.toList,c x y = true) (hl:∀ x ∈ b.toList,∀ y,a[a.size - 1]? = some y->c x y = true) (hk:PyProof.Rows.kindOf st = κ)
    (q:∀ r g,r.toList.Perm all->gM c r.toList->Q r (Gs st g)):wpS (model prog w) A E s (KC a b) Q st:=by
 have eD:∀ (out:Array Keyed) na nb,(a.extract 0 na ++ b.extract 0 nb ++ out.reverse).toList = a.toList.take na ++ b.toList.take nb ++ out.toList.reverse:=fun out na nb=>by
  rw [Array.toList_append,Array.toList_append,kE,kE,Array.toList_reverse]
 have eL:∀ (out:Array Keyed) na nb,(b.extract 0 nb ++ a.extract 0 na ++ out.reverse).toList = b.toList.take nb ++ a.toList.take na ++ out.toList.reverse:=fun out na nb=>by
  rw [Array.toList_append,Array.toList_append,kE,kE,Array.toList_reverse]
 have sS:∀ {out:Array Keyed} {na nb:Nat},HI M c all (a.toList.take na) (b.toList.take nb) out.toList.reverse->nb = 1->(b.extract 0 nb ++ a.extract 0 na ++ out.reverse).toList.Perm all/\gM c (b.extract 0 nb ++ a.extract 0 na ++ out.reverse).toList:=fun {out na nb} h e=>by
  rw [eL];refine h.finL fun x hx y hy=>h0 x ?_ y (List.mem_of_mem_take hy)
  rw [e] at hx;exact hx
 have qX:∀ {out:Array Keyed} {na nb:Nat},HI M c all (a.toList.take na) (b.toList.take nb) out.toList.reverse->na = 0->(a.extract 0 na ++ b.extract 0 nb ++ out.reverse).toList.Perm all/\gM c (a.extract 0 na ++ b.extract 0 nb ++ out.reverse).toList:=fun {out na nb} h e=>by
  rw [eD];exact h.finA (by rw [e,List.take_zero])
 have qW:∀ {out:Array Keyed} {na nb:Nat},HI M c all (a.toList.take na) (b.toList.take nb) out.toList.reverse->nb = 0->(a.extract 0 na ++ b.extract 0 nb ++ out.reverse).toList.Perm all/\gM c (a.extract 0 na ++ b.extract 0 nb ++ out.reverse).toList:=fun {out na nb} h e=>by
  rw [eD];exact h.finB (by rw [e,List.take_zero])
 have yF:∀ (out:Array Keyed) (x:Keyed),(out.push x).toList.reverse = [x] ++ out.toList.reverse:=fun out x=>by
  rw [Array.toList_push,List.reverse_append];rfl
 have Mw:∀ (out d:Array Keyed) i n,(out ++ (d.extract i n).reverse).toList.reverse = (d.toList.take n).drop i ++ out.toList.reverse:=fun out d i n=>by
  rw [Array.toList_append,Array.toList_reverse,List.reverse_append,List.reverse_reverse,yC]
 have JB:∀ g,PyProof.Rows.kindOf (Gs st g) = κ:=fun _=>hk
 have Mp:a.toList.take a.size = a.toList:=List.take_of_length_le (by rw [Array.length_toList];exact Nat.le_refl _);have Mo:b.toList.take b.size = b.toList:=List.take_of_length_le (by rw [Array.length_toList];exact Nat.le_refl _);unfold KC
 delta mergeHi
 lcg_src;refine wpS_bind (jj ?_)
 (lcg_src;lcg_sub;lcg_sub;lcg_sub;lcg_sub;lcg_sub)
 obtain ⟨a0,Zr,da0⟩:=jl (a:=a) na (Nat.le_refl _);refine wpS_bind (aY Zr ?_)
 (lcg_src;lcg_sub)
 have i1:HI M c all (a.toList.take (a.size - 1)) (b.toList.take b.size) (#[a0]:Array Keyed).toList.reverse:=by
  have:=HI.takeA (out:=[]) (A1:=a.toList.take (a.size - 1)) (A2:=[a0]) (B:=b.toList) (by rw [<- da0,Mp];exact h) fun x hx y hy=>by
   rw [List.mem_singleton.mp hy];exact hl x hx a0 Zr
  rw [Mo];exact this
 refine aA (fun e1=>?_) fun e1=>?_
 ·have:=qX i1 (eq_of_beq e1);exact wpS_pure (q _ (gallopOf st) this.1 this.2)
 have e1:a.size - 1 ≠ 0:=by simpa using e1
 refine aA (fun e2=>?_) fun e2=>?_
 ·have:=sS i1 (eq_of_beq e2);exact wpS_pure (q _ (gallopOf st) this.1 this.2)
 have e2:b.size ≠ 1:=by simpa using e2
 refine wpS_bind (wpS_get ?_)
 (lcg_src;lcg_sub)
 refine wpS_bind ?_;rw [range_list];refine wpS_mono (Q:=fun (r:Option (Array Keyed) × Nat × Nat × Array Keyed × Nat) bA=>∃ out g,r.1 = some out/\bA = Gs st g/\out.toList.Perm all/\gM c out.toList)
  (dj (fun k (r:Option (Array Keyed) × Nat × Nat × Array Keyed × Nat) bA=>∃ g,bA = Gs st g/\r.1 = none/\HI M c all (a.toList.take r.2.1) (b.toList.take r.2.2.1) r.2.2.2.1.toList.reverse/\0 < r.2.1/\r.2.1 < a.size/\1 < r.2.2.1/\r.2.2.1 <= b.size/\k = r.2.1 + r.2.2.1) ?_ _ (a.size - 1 + b.size) _ _ (by rw [List.length_range'];omega) ⟨gallopOf st,rfl,rfl,i1,by dsimp only;omega,by dsimp only;omega,by dsimp only;omega,by dsimp only;omega,rfl⟩) ?_
 ·rintro _ k ⟨r0,na,nb,out,mg⟩ bA ⟨g,rfl,rfl,i2,wg,xD,Ar,yz,vn⟩;dsimp only at i2 wg xD Ar yz vn
  (lcg_src;lcg_sub;lcg_sub;lcg_sub;lcg_sub;lcg_sub;lcg_sub;lcg_sub;lcg_sub;lcg_sub)
  refine wpS_bind ?_;rw [range_list];refine wpS_mono (Q:=fun (r:Option (Array Keyed) × Nat × Nat × Array Keyed × Nat × Nat) bA=>bA = Gs st g/\((∃ out,r.1 = some out/\out.toList.Perm all/\gM c out.toList) \/ (r.1 = none/\HI M c all (a.toList.take r.2.1) (b.toList.take r.2.2.1) r.2.2.2.1.toList.reverse/\0 < r.2.1/\r.2.1 < a.size/\1 < r.2.2.1/\r.2.2.1 <= b.size/\r.2.1 + r.2.2.1 < k)))
   (dj (fun k' (r:Option (Array Keyed) × Nat × Nat × Array Keyed × Nat × Nat) bA=>bA = Gs st g/\r.1 = none/\HI M c all (a.toList.take r.2.1) (b.toList.take r.2.2.1) r.2.2.2.1.toList.reverse/\0 < r.2.1/\r.2.1 < a.size/\1 < r.2.2.1/\r.2.2.1 <= b.size/\k' = r.2.1 + r.2.2.1/\k' <= k) ?_ _ k _ _ ?_ ⟨rfl,rfl,i2,wg,xD,Ar,yz,vn,Nat.le_refl _⟩) ?_
  ·rintro _ k' ⟨r0,na,nb,out,ac,bc⟩ bA ⟨rfl,rfl,i3,wg,xD,Ar,yz,ng,Ux⟩;dsimp only at i3 wg xD Ar yz ng
   (lcg_src;lcg_sub;lcg_sub;lcg_sub;lcg_sub;lcg_sub;lcg_sub;lcg_sub;lcg_sub;lcg_sub)
   obtain ⟨y,hy,dy⟩:=jl (a:=b) (n:=nb) (by omega) yz;obtain ⟨x,hx,dx⟩:=jl (a:=a) (n:=na) wg (by omega);have Ki:y ∈ b.toList.take nb:=by rw [dy];simp
   have DG:x ∈ a.toList.take na:=by rw [dx];simp
   have my:M y:=i3.memB Ki;have mx:M x:=i3.memA DG;refine wpS_bind (aY hy (wpS_bind (aY hx (wpS_bind (tK L my mx (JB g) ?_)))));lcg_src
   cases e:c y x with
   | true =>
    refine aA (fun _=>?_) fun z=>absurd rfl z
    (lcg_src;lcg_sub)
    refine wpS_bind (aY hx ?_)
    (lcg_src;lcg_sub;lcg_sub;lcg_sub)
    have i4:HI M c all (a.toList.take (na - 1)) (b.toList.take nb) (out.push x).toList.reverse:=by
     rw [yF];rw [dx] at i3;refine HI.takeA (A2:=[x]) i3 fun z hz v hv=>?_
     rw [List.mem_singleton.mp hv];rw [dy] at hz i3;exact iW L i3.sb my mx (fun z hz=>i3.memB (List.mem_append_left _ hz)) e z hz
    refine aA (fun e1=>wpS_pure ⟨rfl,.inl ⟨_,rfl,qX i4 (eq_of_beq e1)⟩⟩) fun e1=>?_
    have e1:na - 1 ≠ 0:=by simpa using e1
    refine aA (fun _=>wpS_pure ⟨rfl,.inr ⟨rfl,i4,by dsimp only;omega,by dsimp only;omega,by dsimp only;omega,by dsimp only;omega,by dsimp only;omega⟩⟩) fun _=>?_
    exact wpS_pure ⟨_,show na - 1 + nb < k' by omega,rfl,rfl,i4,by dsimp only;omega,by dsimp only;omega,by dsimp only;omega,by dsimp only;omega,rfl,by omega⟩
   | false =>
    refine aA (fun z=>nomatch z) fun _=>?_
    (lcg_src;lcg_sub)
    refine wpS_bind (aY hy ?_)
    (lcg_src;lcg_sub;lcg_sub;lcg_sub)
    have e':c x y = true:=L.tot _ _ my mx (fun z=>i3.ne DG Ki z.symm) e
    have i4:HI M c all (a.toList.take na) (b.toList.take (nb - 1)) (out.push y).toList.reverse:=by
     rw [yF];rw [dy] at i3;refine HI.takeB (B2:=[y]) i3 fun z hz v hv=>?_
     rw [List.mem_singleton.mp hv];rw [dx] at hz i3;exact iW L i3.sa mx my (fun z hz=>i3.memA (List.mem_append_left _ hz)) e' z hz
    refine aA (fun e1=>wpS_pure ⟨rfl,.inl ⟨_,rfl,sS i4 (eq_of_beq e1)⟩⟩) fun e1=>?_
    have e1:nb - 1 ≠ 1:=by simpa using e1
    refine aA (fun _=>wpS_pure ⟨rfl,.inr ⟨rfl,i4,by dsimp only;omega,by dsimp only;omega,by dsimp only;omega,by dsimp only;omega,by dsimp only;omega⟩⟩) fun _=>?_
    exact wpS_pure ⟨_,show na + (nb - 1) < k' by omega,rfl,rfl,i4,by dsimp only;omega,by dsimp only;omega,by dsimp only;omega,by dsimp only;omega,rfl,by omega⟩
  ·rw [List.length_range'];omega
  ·rintro ⟨r0,na,nb,out,ac,bc⟩ bA ⟨rfl,⟨o,rfl,p1,p2⟩ | ⟨rfl,i3,wg,xD,Ar,yz,ng⟩⟩
   ·exact wpS_pure ⟨o,g,rfl,rfl,p1,p2⟩
   dsimp only at i3 wg xD Ar yz ng
   (lcg_src;lcg_sub;lcg_sub;lcg_sub;lcg_sub;lcg_sub;lcg_sub;lcg_sub;lcg_sub;lcg_sub;lcg_sub)
   refine wpS_bind (jj ?_)
   (lcg_src;lcg_sub)
   refine wpS_bind ?_;rw [range_list];refine wpS_mono (Q:=Oi M c all a b st k) (dj (Oh M c all a b st k) ?_ _ _ _ _ ?_ ⟨g,rfl,rfl,i3,wg,xD,Ar,yz,rfl,ng⟩) ?_
   ·rintro _ k' ⟨r0,na,nb,out,mg,ac,bc⟩ bA ⟨g,rfl,rfl,i3,wg,xD,Ar,yz,ng,Ux⟩;dsimp only at i3 wg xD Ar yz ng
    (lcg_src;lcg_sub;lcg_sub;lcg_sub;lcg_sub;lcg_sub;lcg_sub;lcg_sub;lcg_sub;lcg_sub;lcg_sub;lcg_sub)
    (extract_lets +onlyGivenNames -underBinder -merge -useContext J1;clear_value (UT:J1 = _))
    have j1:∀ E6,wpS (model prog w) A E s (J1 () E6) (Dt (Oi M c all a b st k) fun r bA=>∃ vh,vh < k'/\Oh M c all a b st k vh r bA) (Gs st g):=fun E6=>by
     rw [UT];lcg_src;refine wpS_bind (rF ?_);obtain ⟨y,hy,dy⟩:=jl (a:=b) (n:=nb) (by omega) yz;have Ki:y ∈ b.toList.take nb:=by rw [dy];simp
     have my:M y:=i3.memB Ki;refine wpS_bind (aY hy ?_);refine wpS_bind (lL L (by omega) (by rw [List.drop_zero];exact i3.sa) (fun x hx=>i3.memA (by rw [List.drop_zero] at hx;exact hx)) my (by omega) (JB _) fun k1 CP f1 f2=>?_)
     rw [List.drop_zero] at f1 f2
     (lcg_src;lcg_sub;lcg_sub)
     have i4:HI M c all (a.toList.take k1) (b.toList.take nb) ((a.toList.take na).drop k1 ++ out.toList.reverse):=by
      rw [ny CP] at i3;refine i3.takeA fun z hz v hv=>?_
      have mv:M v:=i3.memA (List.mem_append_right _ hv);rw [dy] at hz i3;exact iW L i3.sb my mv (fun z hz=>i3.memB (List.mem_append_left _ hz)) (f2 v hv) z hz
     (extract_lets +onlyGivenNames -underBinder -merge -useContext J2;clear_value (JG:J2 = _))
     have j2:∀ (yg:Nat) (lC:Array Keyed),yg <= na->HI M c all (a.toList.take yg) (b.toList.take nb) lC.toList.reverse->(∀ x ∈ a.toList.take yg,c y x = false)->0 < yg->wpS (model prog w) A E s (J2 () yg lC) (Dt (Oi M c all a b st k) fun r bA=>∃ vh,vh < k'/\Oh M c all a b st k vh r bA) (Gs st E6):=fun yg lC hle i5 f3 JA=>by
      rw [JG]
      (lcg_src;lcg_sub)
      refine wpS_bind (aY hy ?_)
      (lcg_src;lcg_sub)
      have i6:HI M c all (a.toList.take yg) (b.toList.take (nb - 1)) (lC.push y).toList.reverse:=by
       rw [yF];rw [dy] at i5;refine HI.takeB (B2:=[y]) i5 fun z hz v hv=>?_
       rw [List.mem_singleton.mp hv];exact L.tot _ _ my (i5.memA hz) (fun e=>i5.ne hz (List.mem_append_right _ List.mem_cons_self) e.symm) (f3 z hz)
      refine aA (fun e1=>wpS_pure ⟨_,rfl,.inl ⟨_,rfl,sS i6 (eq_of_beq e1)⟩⟩) fun e1=>?_
      have e1:nb - 1 ≠ 1:=by simpa using e1
      obtain ⟨x,hx,dx⟩:=jl (a:=a) (n:=yg) JA (by omega);have DG:x ∈ a.toList.take yg:=by rw [dx];simp
      have mx:M x:=i6.memA DG;refine wpS_bind (aY hx ?_);refine wpS_bind (oF L (by omega) (by rw [List.drop_zero];exact i6.sb) (fun x hx=>i6.memB (by rw [List.drop_zero] at hx;exact hx)) mx (by omega) (JB _) fun k2 L4 f4 f5=>?_)
      rw [List.drop_zero] at f4 f5
      (lcg_src;lcg_sub;lcg_sub)
      have i7:HI M c all (a.toList.take yg) (b.toList.take k2) ((b.toList.take (nb - 1)).drop k2 ++ (lC.push y).toList.reverse):=by
       rw [ny L4] at i6;refine i6.takeB fun z hz v hv=>?_
       have mv:M v:=i6.memB (List.mem_append_right _ hv);have e':=L.tot _ _ mv mx (fun e=>i6.ne DG (List.mem_append_right _ hv) e.symm) (f5 v hv)
       rw [dx] at hz i6;exact iW L i6.sa mx mv (fun z hz=>i6.memA (List.mem_append_left _ hz)) e' z hz
      (extract_lets +onlyGivenNames -underBinder -merge -useContext J3;clear_value (Mj:J3 = _))
      have j3:∀ (GF:Nat) (rV:Array Keyed),GF <= nb - 1->HI M c all (a.toList.take yg) (b.toList.take GF) rV.toList.reverse->(∀ z ∈ b.toList.take GF,c z x = true)->1 < GF->wpS (model prog w) A E s (J3 () GF rV) (Dt (Oi M c all a b st k) fun r bA=>∃ vh,vh < k'/\Oh M c all a b st k vh r bA) (Gs st E6):=fun GF rV Uv i8 f6 hb3=>by
       rw [Mj]
       (lcg_src;lcg_sub)
       refine wpS_bind (aY hx ?_)
       (lcg_src;lcg_sub)
       have i9:HI M c all (a.toList.take (yg - 1)) (b.toList.take GF) (rV.push x).toList.reverse:=by
        rw [yF];rw [dx] at i8;refine HI.takeA (A2:=[x]) i8 fun z hz v hv=>?_
        rw [List.mem_singleton.mp hv];exact f6 z hz
       refine aA (fun e1=>wpS_pure ⟨_,rfl,.inl ⟨_,rfl,qX i9 (eq_of_beq e1)⟩⟩) fun e1=>?_
       have e1:yg - 1 ≠ 0:=by simpa using e1
       refine aA (fun _=>wpS_pure ⟨_,rfl,.inr ⟨rfl,i9,by dsimp only;omega,by dsimp only;omega,by dsimp only;omega,by dsimp only;omega,by dsimp only;omega⟩⟩) fun _=>?_
       exact wpS_pure ⟨_,show yg - 1 + GF < k' by omega,_,rfl,rfl,i9,by dsimp only;omega,by dsimp only;omega,by dsimp only;omega,by dsimp only;omega,rfl,by omega⟩
      refine aA (fun g1=>?_) fun g1=>?_
      ·(lcg_src;lcg_sub;lcg_sub)
       rw [<- Mw] at i7;refine aA (fun e1=>wpS_pure ⟨_,rfl,.inl ⟨_,rfl,sS i7 (eq_of_beq e1)⟩⟩) fun e1=>?_
       have e1:k2 ≠ 1:=by simpa using e1
       refine aA (fun e2=>wpS_pure ⟨_,rfl,.inl ⟨_,rfl,qW i7 (eq_of_beq e2)⟩⟩) fun e2=>?_
       have e2:k2 ≠ 0:=by simpa using e2
       exact j3 _ _ (by omega) i7 f4 (by omega)
      ·obtain rfl:k2 = nb - 1:=by omega
       exact j3 _ _ (Nat.le_refl _) i6 f4 (by omega)
     refine aA (fun g1=>?_) fun g1=>?_
     ·(lcg_src;lcg_sub;lcg_sub)
      rw [<- Mw] at i4;refine aA (fun e1=>wpS_pure ⟨_,rfl,.inl ⟨_,rfl,qX i4 (eq_of_beq e1)⟩⟩) fun e1=>?_
      have e1:k1 ≠ 0:=by simpa using e1
      exact j2 _ _ (by omega) i4 f1 (by omega)
     ·obtain rfl:k1 = na:=by omega
      exact j2 _ _ (Nat.le_refl _) i3 f1 wg
    exact aA (fun _=>j1 _) fun _=>j1 _
   ·rw [List.length_range'];dsimp only;omega
   ·rintro ⟨r0,na,nb,out,mg,ac,bc⟩ bA ⟨g,rfl,⟨o,rfl,p1,p2⟩ | ⟨rfl,i3,wg,xD,Ar,yz,ng⟩⟩
    ·exact wpS_pure ⟨o,g,rfl,rfl,p1,p2⟩
    ·dsimp only at i3 wg xD Ar yz ng
     (lcg_src;lcg_sub;lcg_sub;lcg_sub;lcg_sub;lcg_sub;lcg_sub;lcg_sub;lcg_sub;lcg_sub;lcg_sub)
     refine wpS_bind (rF ?_);exact wpS_pure ⟨_,ng,_,rfl,rfl,i3,wg,xD,Ar,yz,rfl⟩
 ·rintro ⟨r0,na,nb,out,mg⟩ bA ⟨o,g,rfl,rfl,p1,p2⟩;exact wpS_pure (q o g p1 p2)
end
end TS
namespace TS
local macro_rules | `(tactic| lcg_src) => `(tactic| try dsimp (zeta := false) (zetaUnused := false) only)
local macro_rules | `(tactic| lcg_sub) => `(tactic| (extract_lets +onlyGivenNames -underBinder -merge -useContext zz; subst zz; try dsimp (zeta := false) (zetaUnused := false) only))
open PySem PySem.W PyProof.Rows
local macro_rules | `(term| type_of% $n:ident) => return Lean.mkIdent (Lean.mkPrivateNameCore `PySem.Builtin.List.W1All (`PySem.Builtin ++ n.getId))
local macro_rules | `(tactic| delta $n:ident) => if Lean.isPrivateName n.getId then Lean.Macro.throwUnsupported else `(tactic| delta $(Lean.mkIdent (Lean.mkPrivateNameCore `PySem.Builtin.List.W1All (`PySem.Builtin ++ n.getId))):ident)
section
variable {prog:Program} {w:World} {A:Around} {s:Shared} {E:Value->Shared->Prop} {κ:SortKind} {M:Keyed->Prop} {c:Keyed->Keyed->Bool}
abbrev Ms (κ:SortKind) (arr:Array Keyed) (p:Array (Nat × Nat × Nat)) (g:Nat):SortSt:=SortSt.mk' κ arr p g none
theorem G9 {st bA:SortSt} {Q:PUnit->SortSt->Prop} (q:Q ⟨⟩ bA):wpS (model prog w) A E s (set bA) Q st:=by
 have:(set bA:StateT SortSt Sem PUnit) = modify fun _=>bA:=rfl
 rw [this];exact wpS_modify q
theorem ye {sa : Nat} : ∀ (l : List Keyed) (n : Nat) (arr : Array Keyed), sa + n + l.length <= arr.size ->
    ((l.zipIdx n).foldl (fun (a:Array Keyed) (x:Keyed × Nat)=>match x with | (p,j)=>a.setIfInBounds (sa + j) p) arr).toList = arr.toList.take (sa + n) ++ l ++ arr.toList.drop (sa + n + l.length)
 | [],n,arr,h=>by
  rw [List.zipIdx_nil,List.foldl_nil,List.append_nil,List.length_nil,Nat.add_zero,List.take_append_drop]
 | x :: l,n,arr,h=>by
  rw [List.length_cons] at h;rw [List.zipIdx_cons,List.foldl_cons];dsimp only;rw [ye l (n + 1) _ (by rw [Array.size_setIfInBounds];omega),Array.toList_setIfInBounds];have hl:sa + n < arr.toList.length:=by rw [Array.length_toList];omega
  rw [show sa + (n + 1) = sa + n + 1 by omega,List.take_succ_eq_append_getElem (by rw [List.length_set];exact hl),List.getElem_set_self,List.take_set_of_le (Nat.le_refl _),List.length_cons,List.drop_set_of_lt (by omega),show sa + n + 1 + l.length = sa + n + (l.length + 1) by omega,List.append_assoc,List.append_assoc,List.append_assoc]
  rfl
theorem wt (L : tF prog w A s κ M c) {arr : Array Keyed} {pend : Array (Nat × Nat × Nat)} {g i sa na p1 sb nb p2 : Nat} {Q : Bool -> SortSt -> Prop} (h1 : pend[i]? = some (sa, na, p1)) (h2 : pend[i + 1]? = some (sb, nb, p2)) (NY : sb = sa + na)
    (hsz:sb + nb <= arr.size) (na0:0 < na) (nb0:0 < nb) (sA:gM c ((arr.toList.drop sa).take na)) (sB:gM c ((arr.toList.drop sb).take nb)) (mm:∀ x ∈ arr.toList,M x) (nd:arr.toList.Nodup)
    (q:∀ cb g' m,cb.toList = arr.toList.take sa ++ m ++ arr.toList.drop (sb + nb)->m.Perm ((arr.toList.drop sa).take (na + nb))->gM c m->Q true (Ms κ cb ((pend.setIfInBounds i (sa,na + nb,p1)).eraseIdxIfInBounds (i + 1)) g')) :
    wpS (model prog w) A E s (mergeAt' i) Q (Ms κ arr pend g):=by
 have Lz:((arr.toList.drop sa).take na).length = na:=by rw [List.length_take,List.length_drop,Array.length_toList];omega
 have Ly:((arr.toList.drop sb).take nb).length = nb:=by rw [List.length_take,List.length_drop,Array.length_toList];omega
 have ZJ:(arr.toList.drop sa).take (na + nb) = (arr.toList.drop sa).take na ++ (arr.toList.drop sb).take nb:=by rw [List.take_add,List.drop_drop,NY]
 have Fz:arr.toList = arr.toList.take sa ++ ((arr.toList.drop sa).take na ++ (arr.toList.drop sb).take nb) ++ arr.toList.drop (sb + nb):=by
  rw [<- ZJ,NY,Nat.add_assoc,<- List.drop_drop,List.append_assoc,List.take_append_drop,List.take_append_drop]
 have mA:∀ x ∈ (arr.toList.drop sa).take na,M x:=fun x hx=>mm x (List.mem_of_mem_drop (List.mem_of_mem_take hx))
 have mB:∀ x ∈ (arr.toList.drop sb).take nb,M x:=fun x hx=>mm x (List.mem_of_mem_drop (List.mem_of_mem_take hx))
 have Lu:((arr.toList.drop sa).take na ++ (arr.toList.drop sb).take nb).Nodup:=by
  rw [Fz] at nd;exact (List.nodup_append.mp (List.nodup_append.mp nd).1).2.1
 have Ls:∀ x ∈ (arr.toList.drop sa).take na,∀ y ∈ (arr.toList.drop sb).take nb,x ≠ y:=fun x hx y hy=>(List.nodup_append.mp Lu).2.2 x hx y hy
 have q':∀ cb g' m,cb.toList = arr.toList.take sa ++ m ++ arr.toList.drop (sb + nb)->m.Perm ((arr.toList.drop sa).take na ++ (arr.toList.drop sb).take nb)->gM c m->Q true (Ms κ cb ((pend.setIfInBounds i (sa,na + nb,p1)).eraseIdxIfInBounds (i + 1)) g'):=fun cb g' m a1 a2 a3=>q cb g' m a1 (by rw [ZJ];exact a2) a3
 have Kq:sb < arr.size:=by omega
 obtain ⟨b0,Kq,Oa⟩:=jw Kq;have NI:(arr.toList.drop sb).take nb = b0 :: (arr.toList.drop (sb + 1)).take (nb - 1):=by
  rw [Oa,show nb = (nb - 1) + 1 by omega,List.take_succ_cons];rfl
 have SJ:M b0:=mB _ (by rw [NI];exact List.mem_cons_self);generalize hA:(arr.toList.drop sa).take na = lA at *;generalize hB:(arr.toList.drop sb).take nb = lB at *;have same:(∀ x ∈ lA,∀ y ∈ lB,c x y = true)->Q true (Ms κ arr ((pend.setIfInBounds i (sa,na + nb,p1)).eraseIdxIfInBounds (i + 1)) g):=fun ed=>q' arr g (lA ++ lB) Fz (List.Perm.refl _) (List.pairwise_append.mpr ⟨sA,sB,ed⟩)
 show wpS (model prog w) A E s ((type_of% mergeAt) i) Q (Ms κ arr pend g)
 delta mergeAt
 lcg_src;refine wpS_bind (wpS_get ?_);lcg_src;rw [show (pendingOf (Ms κ arr pend g))[i]? = some (sa,na,p1) from h1,show (pendingOf (Ms κ arr pend g))[i + 1]? = some (sb,nb,p2) from h2];lcg_src;refine wpS_bind (G9 ?_);refine wpS_bind (aY Kq ?_);refine wpS_bind (lL L (by show sa + na <= arr.size;omega) (by rw [hA];exact sA) (by rw [hA];exact mA) SJ na0 rfl fun k1 CP f1 f2=>?_)
 rw [hA] at f2;have f1:∀ x ∈ lA.take k1,c b0 x = false:=fun x hx=>f1 x (by rw [<- hA,List.take_take,Nat.min_eq_left CP] at hx;exact hx)
 lcg_src;have lt0:∀ x,M x->c x b0 = true->∀ y ∈ lB,c x y = true:=fun x mx e=>by
  rw [NI] at sB mB ⊢;exact iZ L sB SJ mx (fun z hz=>mB z (List.mem_cons_of_mem _ hz)) e
 have UN:b0 ∈ lB:=by rw [NI];exact List.mem_cons_self
 have ZH:∀ x ∈ lA.take k1,∀ y ∈ lB,c x y = true:=fun x hx=>by
  have zP:=List.mem_of_mem_take hx;exact lt0 x (mA x zP) (L.tot _ _ SJ (mA x zP) (fun e=>Ls x zP b0 UN e.symm) (f1 x hx))
 refine aA (fun e1=>?_) fun e1=>?_
 ·have e1:na - k1 = 0:=eq_of_beq e1;refine wpS_pure (same fun x hx y hy=>ZH x ?_ y hy)
  rw [List.take_of_length_le (by omega)];exact hx
 have e1:na - k1 ≠ 0:=by simpa using e1
 have eA:(arr.extract (sa + k1) sb).toList = lA.drop k1:=by
  rw [yC,<- hA,List.drop_take,List.drop_take,List.drop_drop]
  congr 1
  omega
 have YL:(arr.extract (sa + k1) sb).size = na - k1:=by rw [<- Array.length_toList,eA,List.length_drop,Lz]
 obtain ⟨x,hx,dx⟩:=jl (a:=arr.extract (sa + k1) sb) (n:=na - k1) (by omega) (by omega);have zP:arr[sa + k1 + (na - k1) - 1]? = some x:=by
  rw [Array.getElem?_extract,if_pos (by omega)] at hx;rw [show sa + k1 + (na - k1) - 1 = sa + k1 + (na - k1 - 1) by omega];exact hx
 have VV:lA.drop k1 = (lA.drop k1).take (na - k1 - 1) ++ [x]:=by
  rw [eA,List.take_of_length_le (by rw [List.length_drop];omega)] at dx;exact dx
 have DG:x ∈ lA:=List.mem_of_mem_drop (i:=k1) (by rw [VV];simp);have mx:M x:=mA x DG;have upx:∀ z ∈ lA,∀ y,M y->c x y = true->c z y = true:=fun z hz y my e=>by
  have e2:lA = (lA.take k1 ++ (lA.drop k1).take (na - k1 - 1)) ++ [x]:=by
   rw [List.append_assoc,<- VV,List.take_append_drop]
  rw [e2] at hz sA mA;exact iW L sA mx my (fun z hz=>mA z (List.mem_append_left _ hz)) e z hz
 refine wpS_bind (aY zP ?_);refine wpS_bind (oF L hsz (by rw [hB];exact sB) (by rw [hB];exact mB) mx (by omega) rfl fun k2 vn f3 f4=>?_)
 rw [hB] at f4;have f3:∀ z ∈ lB.take k2,c z x = true:=fun z hz=>f3 z (by rw [<- hB,List.take_take,Nat.min_eq_left vn] at hz;exact hz)
 have Vp:∀ y ∈ lB.drop k2,∀ z ∈ lA,c z y = true:=fun y hy z hz=>by
  have CI:=List.mem_of_mem_drop hy;exact upx z hz y (mB y CI) (L.tot _ _ (mB y CI) mx (fun e=>Ls x DG y CI e.symm) (f4 y hy))
 lcg_src;refine aA (fun e2=>?_) fun e2=>?_
 ·have e2:k2 = 0:=eq_of_beq e2;refine wpS_pure (same fun x hx y hy=>Vp y ?_ x hx)
  rw [e2,List.drop_zero];exact hy
 have e2:k2 ≠ 0:=by simpa using e2
 (lcg_src;lcg_sub;lcg_sub)
 (extract_lets +onlyGivenNames -underBinder -merge -useContext J;clear_value (hJ:J = _))
 have eB:(arr.extract sb (sb + k2)).toList = lB.take k2:=by
  rw [oJ,<- hB,List.take_take,Nat.min_eq_left vn]
 have sz2:(arr.extract sb (sb + k2)).size = k2:=by rw [<- Array.length_toList,eB,List.length_take,Ly];omega
 have j:∀ (r:Array Keyed) g',r.toList.Perm (lA.drop k1 ++ lB.take k2)->gM c r.toList->wpS (model prog w) A E s (J r) Q (Gs (Ms κ arr ((pend.setIfInBounds i (sa,na + nb,p1)).eraseIdxIfInBounds (i + 1)) g) g'):=fun r g' pr sr=>by
  rw [hJ];lcg_src;refine wpS_bind (wpS_modify (wpS_bind (wpS_get (wpS_pure ?_))));have lr:r.toList.length = na - k1 + k2:=by rw [pr.length_eq,List.length_append,List.length_drop,List.length_take,Lz,Ly];omega
  refine q' _ g' (lA.take k1 ++ r.toList ++ lB.drop k2) ((ye r.toList 0 arr (by omega)).trans ?_) ?_ ?_
  ·have h3:arr.toList.take (sa + k1 + 0) = arr.toList.take sa ++ lA.take k1:=by
    rw [Nat.add_zero,List.take_add,<- hA,List.take_take,Nat.min_eq_left CP]
   have h4:arr.toList.drop (sa + k1 + 0 + r.toList.length) = lB.drop k2 ++ arr.toList.drop (sb + nb):=by
    rw [lr,show sa + k1 + 0 + (na - k1 + k2) = sb + k2 by omega,<- hB,List.drop_take];rw [show arr.toList.drop (sb + nb) = (arr.toList.drop (sb + k2)).drop (nb - k2) by rw [List.drop_drop];congr 1;omega,List.drop_drop,List.take_append_drop]
   rw [h3,h4];simp only [List.append_assoc]
  ·have:lA ++ lB = lA.take k1 ++ (lA.drop k1 ++ lB.take k2) ++ lB.drop k2:=by
    rw [<- List.append_assoc,List.take_append_drop,List.append_assoc,List.take_append_drop]
   rw [this];exact List.Perm.append_right _ (List.Perm.append_left _ pr)
  ·have sA':gM c (lA.take k1 ++ lA.drop k1):=by rw [List.take_append_drop];exact sA
   have sB':gM c (lB.take k2 ++ lB.drop k2):=by rw [List.take_append_drop];exact sB
   have pA:=List.pairwise_append.mp sA';have pB:=List.pairwise_append.mp sB';have m1:∀ x ∈ lA.take k1,∀ y ∈ r.toList,c x y = true:=fun x hx y hy=>by
    rcases List.mem_append.mp (pr.mem_iff.mp hy) with hy | hy
    ·exact pA.2.2 x hx y hy
    ·exact ZH x hx y (List.mem_of_mem_take hy)
   have m2:∀ x ∈ r.toList,∀ y ∈ lB.drop k2,c x y = true:=fun x hx y hy=>by
    rcases List.mem_append.mp (pr.mem_iff.mp hx) with hx | hx
    ·exact Vp y hy x (List.mem_of_mem_drop hx)
    ·exact pB.2.2 x hx y hy
   refine List.pairwise_append.mpr ⟨List.pairwise_append.mpr ⟨pA.1,sr,m1⟩,pB.2.1,fun x hx y hy=>?_⟩
   rcases List.mem_append.mp hx with hx | hx
   ·exact Vp y hy x (List.mem_of_mem_take hx)
   ·exact m2 x hx y hy
 have YQ:gM c (lA.drop k1):=sA.sublist (List.drop_sublist _ _);have YO:gM c (lB.take k2):=sB.sublist (List.take_sublist _ _);have Y2:∀ x ∈ lA.drop k1 ++ lB.take k2,M x:=fun x hx=>by
  rcases List.mem_append.mp hx with hx | hx
  ·exact mA x (List.mem_of_mem_drop hx)
  ·exact mB x (List.mem_of_mem_take hx)
 have Y1:(lA.drop k1 ++ lB.take k2).Nodup:=Lu.sublist ((List.drop_sublist _ _).append (List.take_sublist _ _));have tb:lB.take k2 = b0 :: ((arr.toList.drop (sb + 1)).take (nb - 1)).take (k2 - 1):=by
  rw [NI,show k2 = (k2 - 1) + 1 by omega,List.take_succ_cons];rfl
 refine aA (fun g1=>?_) fun g1=>?_
 ·refine wpS_bind (Ky L (all:=lA.drop k1 ++ lB.take k2) (by rw [eA,eB];exact ⟨List.Perm.refl _,List.Pairwise.nil,YQ,YO,fun _ z=>(nomatch z),Y2,Y1⟩) (show 0 < (arr.extract (sa + k1) sb).size by omega) (show 0 < (arr.extract sb (sb + k2)).size by omega) (fun z hz y hy=>?_) (fun z hz y hy=>?_) rfl fun r g' p1 p2=>?_)
  ·have:z = b0:=by
    rw [<- Array.getElem?_toList,eB,tb] at hz;exact (Option.some.inj hz).symm
   rw [this];exact f2 y (by rw [eA] at hy;exact hy)
  ·rw [eB] at hz;rw [YL,eA,VV] at hy;have:y = x:=by
    rw [List.drop_append_of_le_length (by rw [List.length_take,List.length_drop];omega),List.drop_of_length_le (by rw [List.length_take];omega)] at hy;simpa using hy
   rw [this];exact f3 z hz
  ·exact j r g' p1 p2
 ·refine wpS_bind (Kz L (all:=lA.drop k1 ++ lB.take k2) (by rw [eA,eB];exact ⟨by rw [List.append_nil],List.Pairwise.nil,YQ,YO,fun _ _ _ z=>(nomatch z),Y2,Y1⟩) (show 0 < (arr.extract (sa + k1) sb).size by omega) (show 0 < (arr.extract sb (sb + k2)).size by omega) (fun z hz y hy=>?_) (fun z hz y hy=>?_) rfl fun r g' p1 p2=>?_)
  ·have:z = b0:=by
    rw [eB,tb] at hz;simpa using hz
   rw [this];exact f2 y (by rw [eA] at hy;exact hy)
  ·rw [eB] at hz;rw [YL,hx] at hy
   cases hy
   exact f3 z hz
  ·exact j r g' p1 p2
end
end TS
namespace TS
variable {arr a b:Array Keyed} {i j lo hi n:Nat} {c:Keyed->Keyed->Bool}
local macro_rules | `(tactic| lcg_src) => `(tactic| try dsimp (zeta := false) (zetaUnused := false) only)
local macro_rules | `(tactic| lcg_sub) => `(tactic| (extract_lets +onlyGivenNames -underBinder -merge -useContext zz; subst zz; try dsimp (zeta := false) (zetaUnused := false) only))
open PySem PySem.W PyProof.Rows
abbrev ka (arr:Array Keyed) (i:Nat):Keyed:=arr.getD i (Value.none,Value.none)
theorem ow (h:i < arr.size):arr[i]? = some (ka arr i):=by
 unfold ka;rw [Array.getD_eq_getD_getElem?,Array.getElem?_eq_getElem h];rfl
theorem me {cb:Array Keyed} (h:cb[i]? = arr[j]?):ka cb i = ka arr j:=by
 unfold ka;rw [Array.getD_eq_getD_getElem?,Array.getD_eq_getD_getElem?,h]
structure Gd (M:Keyed->Prop) (arr:Array Keyed):Prop where
 mm:∀ x ∈ arr.toList,M x
 nd:arr.toList.Nodup
theorem Gd.perm {M:Keyed->Prop} {cb:Array Keyed} (h:Gd M arr) (p:cb.Perm arr):Gd M cb:=by
 have p':=Array.perm_iff_toList_perm.mp p;exact ⟨fun x hx=>h.mm x (p'.mem_iff.mp hx),p'.nodup_iff.mpr h.nd⟩
theorem Gd.at_ {M:Keyed->Prop} (h:Gd M arr) (hi:i < arr.size):M (ka arr i):=by
 have:=ow hi;rw [<- Array.getElem?_toList] at this;exact h.mm _ (List.mem_of_getElem? this)
theorem Gd.ne {M:Keyed->Prop} (h:Gd M arr) (hi:i < arr.size) (hj:j < arr.size) (vo:i ≠ j):ka arr i ≠ ka arr j:=by
 have h1:=ow hi;have h2:=ow hj;rw [<- Array.getElem?_toList] at h1 h2;obtain ⟨l1,e1⟩:=List.getElem?_eq_some_iff.mp h1;obtain ⟨l2,e2⟩:=List.getElem?_eq_some_iff.mp h2;rw [<- e1,<- e2];have q:=List.pairwise_iff_getElem.mp h.nd
 by_cases z:i < j
 ·exact q i j l1 l2 z
 ·exact fun e=>q j i l2 l1 (by omega) e.symm
structure Loc (arr cb:Array Keyed) (lo hi:Nat):Prop where
 pm:cb.Perm arr
 out:∀ i,i < lo \/ hi <= i->cb[i]? = arr[i]?
theorem Loc.refl:Loc arr arr lo hi:=⟨Array.Perm.refl _,fun _ _=>rfl⟩
theorem Loc.trans {d:Array Keyed} (h:Loc a b lo hi) (h':Loc b d lo hi):Loc a d lo hi:=⟨h'.pm.trans h.pm,fun i z=>(h'.out i z).trans (h.out i z)⟩
theorem Loc.mono {Kn:Nat} (h:Loc a b lo hi) (z:hi <= Kn):Loc a b lo Kn:=⟨h.pm,fun i y=>h.out i (by omega)⟩
theorem Loc.size (h:Loc a b lo hi):b.size = a.size:=h.pm.size_eq
def Ups (c:Keyed->Keyed->Bool) (arr:Array Keyed) (lo n:Nat):Prop:=∀ i j,i < j->j < n->c (ka arr (lo + i)) (ka arr (lo + j)) = true
def Dns (c:Keyed->Keyed->Bool) (arr:Array Keyed) (lo n:Nat):Prop:=∀ i j,i < j->j < n->c (ka arr (lo + j)) (ka arr (lo + i)) = true
theorem Ups.srt (h:Ups c arr lo n) (hn:lo + n <= arr.size):gM c ((arr.toList.drop lo).take n):=by
 have hl:((arr.toList.drop lo).take n).length = n:=by rw [List.length_take,List.length_drop,Array.length_toList];omega
 refine List.pairwise_iff_getElem.mpr fun i j hi hj vo=>?_
 obtain ⟨h1,e1⟩:=seg_at hn (show i < n by omega);obtain ⟨h2,e2⟩:=seg_at hn (show j < n by omega);rw [ow (by omega)] at e1 e2;rw [<- Option.some.inj e1,<- Option.some.inj e2];exact h i j vo (by omega)
theorem Ups.of_srt (hn:lo + n <= arr.size) (h:gM c ((arr.toList.drop lo).take n)):Ups c arr lo n:=fun i j vo hj=>by
 obtain ⟨h1,e1⟩:=seg_at hn (show i < n by omega);obtain ⟨h2,e2⟩:=seg_at hn (show j < n by omega);rw [ow (by omega)] at e1 e2;rw [Option.some.inj e1,Option.some.inj e2];exact List.pairwise_iff_getElem.mp h i j h1 h2 vo
section
variable {prog:Program} {w:World} {A:Around} {s:Shared} {E:Value->Shared->Prop} {κ:SortKind} {M:Keyed->Prop}
theorem jk (L:tF prog w A s κ M c) {p:Array (Nat × Nat × Nat)} {g:Nat} (G:Gd M arr) (hi:i < arr.size) (hj:j < arr.size) {Q:Option Bool->SortSt->Prop} (q:Q (some (c (ka arr i) (ka arr j))) (Ms κ arr p g)):wpS (model prog w) A E s (ltAt' i j) Q (Ms κ arr p g):=by
 rw [ltAt'_eq];refine wpS_bind (wpS_get ?_);refine wpS_bind (aY (ow hi) ?_);refine wpS_bind (aY (ow hj) ?_);exact tK L (G.at_ hi) (G.at_ hj) rfl q
theorem mW {β : Type} {f : Nat -> β -> StateT SortSt Sem (ForInStep β)} {Q : β -> SortSt -> Prop} (I : Nat -> β -> SortSt -> Prop)
    (step:∀ x k b st,I (k + 1) b st->wpS (model prog w) A E s (f x b) (Dt Q fun b' bA=>I k b' bA) st) (fin:∀ b st,I 0 b st->Q b st) :
    ∀ (l:List Nat) (b:β) (st:SortSt),I l.length b st->wpS (model prog w) A E s (forIn l b f) Q st
 | [],b,st,i=>by
  rw [List.forIn_nil];exact wpS_pure (fin b st i)
 | x :: l,b,st,i=>by
  rw [List.forIn_cons];refine wpS_bind (wpS_mono (step x l.length b st i) fun r bA hr=>?_)
  cases r with
  | done b'=>exact wpS_pure hr
  | yield b'=>exact mW I step fin l b' bA hr
theorem Ups.more (L:tF prog w A s κ M c) (G:Gd M arr) (hn:lo + n < arr.size) (h1:1 <= n) (u:Ups c arr lo n) (e:c (ka arr (lo + n - 1)) (ka arr (lo + n)) = true):Ups c arr lo (n + 1):=fun i j vo hj=>by
 by_cases z:j < n
 ·exact u i j vo z
 ·obtain rfl:j = n:=by omega
  by_cases y:i = j - 1
  ·rw [y,show lo + (j - 1) = lo + j - 1 by omega];exact e
  ·refine L.trans _ (ka arr (lo + j - 1)) _ (G.at_ (by omega)) (G.at_ (by omega)) (G.at_ hn) ?_ e;rw [show lo + j - 1 = lo + (j - 1) by omega];exact u i (j - 1) (by omega) (by omega)
theorem Dns.more (L:tF prog w A s κ M c) (G:Gd M arr) (hn:lo + n < arr.size) (h1:1 <= n) (u:Dns c arr lo n) (e:c (ka arr (lo + n)) (ka arr (lo + n - 1)) = true):Dns c arr lo (n + 1):=fun i j vo hj=>by
 by_cases z:j < n
 ·exact u i j vo z
 ·obtain rfl:j = n:=by omega
  by_cases y:i = j - 1
  ·rw [y,show lo + (j - 1) = lo + j - 1 by omega];exact e
  ·refine L.trans _ (ka arr (lo + j - 1)) _ (G.at_ hn) (G.at_ (by omega)) (G.at_ (by omega)) e ?_;rw [show lo + j - 1 = lo + (j - 1) by omega];exact u i (j - 1) (by omega) (by omega)
theorem E7 (hn:lo + n <= arr.size):Loc arr (mirror arr lo (lo + n) ((lo + n - lo) / 2)) lo (lo + n):=by
 refine ⟨mirror_perm _ _ _ _,fun i z=>?_⟩;rw [getElem?_mirror_all hn,if_neg (by omega)]
theorem Dns.rev (hn:lo + n <= arr.size) (d:Dns c arr lo n):Ups c (mirror arr lo (lo + n) ((lo + n - lo) / 2)) lo n:=fun i j vo hj=>by
 have e:∀ i,i < n->ka (mirror arr lo (lo + n) ((lo + n - lo) / 2)) (lo + i) = ka arr (lo + (n - 1 - i)):=fun i hi=>me (by
  rw [getElem?_mirror_all hn,if_pos (by omega)]
  congr 1
  omega)
 rw [e i (by omega),e j hj];exact d _ _ (by omega) (by omega)
theorem AE (L : tF prog w A s κ M c) {p : Array (Nat × Nat × Nat)} {g mN : Nat} (G : Gd M arr) (hn : lo + mN <= arr.size) (h1 : 1 <= mN) {Q : Option Nat -> SortSt -> Prop}
    (q:∀ n cb,1 <= n->n <= mN->Loc arr cb lo (lo + n)->Ups c cb lo n->Q (some n) (Ms κ cb p g)):wpS (model prog w) A E s (countRun' lo mN) Q (Ms κ arr p g):=by
 rw [countRun'_eq]
 (lcg_src;lcg_sub)
 refine wpS_bind ?_;rw [range_list];refine wpS_mono (Q:=fun (r:Option (Option Nat) × Nat) st=>st = Ms κ arr p g/\r.1 = none/\1 <= r.2/\r.2 <= mN/\Ups c arr lo r.2/\(r.2 < mN->c (ka arr (lo + r.2)) (ka arr (lo + r.2 - 1)) = true))
  (mW (fun k (r:Option (Option Nat) × Nat) st=>st = Ms κ arr p g/\r.1 = none/\1 <= r.2/\r.2 + k = mN/\Ups c arr lo r.2) ?_ ?_ _ _ _ ⟨rfl,rfl,Nat.le_refl _,by rw [List.length_range'];dsimp only;omega,fun i j a b=>by dsimp only at b;omega⟩) ?_
 ·rintro x k ⟨r,n⟩ st ⟨rfl,rfl,a1,a2,u⟩;dsimp only at a1 a2 u
  (lcg_src;lcg_sub)
  refine wpS_bind (jk L G (by omega) (by omega) ?_);lcg_src
  cases e:c (ka arr (lo + n)) (ka arr (lo + n - 1)) with
  | true=>exact aA (fun _=>wpS_pure ⟨rfl,rfl,a1,by dsimp only;omega,u,fun _=>e⟩) fun z=>absurd rfl z
  | false =>
   refine aA (fun z=>nomatch z) fun _=>?_
   (lcg_src;lcg_sub)
   exact wpS_pure ⟨rfl,rfl,by dsimp only;omega,by dsimp only;omega,u.more L G (by omega) a1 (L.tot _ _ (G.at_ (by omega)) (G.at_ (by omega)) (G.ne (by omega) (by omega) (by omega)) e)⟩
 ·rintro ⟨r,n⟩ st ⟨rfl,rfl,a1,a2,u⟩;exact ⟨rfl,rfl,a1,by omega,u,fun z=>by omega⟩
 rintro ⟨r,n⟩ st ⟨rfl,rfl,a1,a2,u,ex⟩;dsimp only at a1 a2 u ex
 (lcg_src;lcg_sub;lcg_sub)
 refine aA (fun e=>wpS_pure (q n arr a1 a2 Loc.refl u)) fun e=>?_
 have e:n ≠ mN:=by simpa using e
 (extract_lets +onlyGivenNames -underBinder -merge -useContext J;clear_value (hJ:J = _))
 refine aA (fun N1=>?_) fun N1=>?_
 ·refine wpS_bind (jk L G (by omega) (by omega) ?_);lcg_src;have:c (ka arr lo) (ka arr (lo + n - 1)) = true:=by
   have:=u 0 (n - 1) (by omega) (by omega);rw [show lo + (n - 1) = lo + n - 1 by omega] at this;exact this
  refine aA (fun _=>wpS_pure (q n arr a1 a2 Loc.refl u)) fun z=>absurd this z
 obtain rfl:n = 1:=by omega
 have ex:=ex (by omega);rw [hJ];lcg_src;refine wpS_bind (jj ?_)
 (lcg_src;lcg_sub;lcg_sub)
 refine wpS_bind ?_;rw [range_list];refine wpS_mono (Q:=fun (r:Option (Option Nat) × Nat × Nat) st=>st = Ms κ arr p g/\r.1 = none/\r.2.2 = 0/\2 <= r.2.1/\r.2.1 <= mN/\Dns c arr lo r.2.1)
  (mW (fun k (r:Option (Option Nat) × Nat × Nat) st=>st = Ms κ arr p g/\r.1 = none/\r.2.2 = 0/\2 <= r.2.1/\r.2.1 + k = mN/\Dns c arr lo r.2.1) ?_ ?_ _ _ _ ⟨rfl,rfl,rfl,Nat.le_refl _,by rw [List.length_range'];dsimp only;omega,fun i j a b=>by
   dsimp only at b;obtain rfl:i = 0:=by omega
   obtain rfl:j = 1:=by omega
   exact ex⟩) ?_
 ·rintro x k ⟨r,n,YY⟩ st ⟨rfl,rfl,rfl,a1,a2,u⟩;dsimp only at a1 a2 u
  (lcg_src;lcg_sub;lcg_sub;lcg_sub)
  refine wpS_bind (jk L G (by omega) (by omega) ?_);lcg_src
  (extract_lets +onlyGivenNames -underBinder -merge -useContext J2;clear_value (JG:J2 = _))
  cases e:c (ka arr (lo + n)) (ka arr (lo + n - 1)) with
  | true =>
   refine aA (fun _=>?_) fun z=>absurd rfl z
   (extract_lets +onlyGivenNames -underBinder -merge -useContext J3;clear_value (Mj:J3 = _))
   refine aA (fun z=>absurd z (Nat.lt_irrefl 0)) fun _=>?_
   rw [Mj,JG]
   (lcg_src;lcg_sub;lcg_sub)
   exact wpS_pure ⟨rfl,rfl,rfl,by dsimp only;omega,by dsimp only;omega,u.more L G (by omega) (by omega) e⟩
  | false =>
   refine aA (fun z=>nomatch z) fun _=>?_
   have e':=L.tot _ _ (G.at_ (by omega)) (G.at_ (by omega)) (G.ne (by omega) (by omega) (by omega)) e;refine wpS_bind (jk L G (by omega) (by omega) ?_);lcg_src;refine aA (fun _=>wpS_pure ⟨rfl,rfl,rfl,a1,by dsimp only;omega,u⟩) fun z=>absurd e' z
 ·rintro ⟨r,n,YY⟩ st ⟨rfl,rfl,rfl,a1,a2,u⟩;exact ⟨rfl,rfl,rfl,a1,by omega,u⟩
 rintro ⟨r,n,YY⟩ st ⟨rfl,rfl,rfl,a1,a2,u⟩;dsimp only at a1 a2 u
 (lcg_src;lcg_sub;lcg_sub;lcg_sub;lcg_sub)
 (extract_lets +onlyGivenNames -underBinder -merge -useContext J4;clear_value (hJ4:J4 = _))
 refine aA (fun z=>absurd z (Nat.lt_irrefl 0)) fun _=>?_
 rw [hJ4];lcg_src;refine wpS_bind (wpS_reverse ?_);have lc:=E7 (arr:=arr) (lo:=lo) (n:=n) (by omega);have u2:=u.rev (by omega);show wpS _ _ _ _ _ _ (Ms κ (mirror arr lo (lo + n) ((lo + n - lo) / 2)) p g);generalize mirror arr lo (lo + n) ((lo + n - lo) / 2) = cI at *;have G2:=G.perm lc.pm;have sz:=lc.size;refine wpS_bind ?_;rw [range_list];refine wpS_mono (Q:=fun (r:Option (Option Nat) × Nat) st=>st = Ms κ cI p g/\r.1 = none/\n <= r.2/\r.2 <= mN/\Ups c cI lo r.2)
  (mW (fun k (r:Option (Option Nat) × Nat) st=>st = Ms κ cI p g/\r.1 = none/\n <= r.2/\r.2 + k = mN/\Ups c cI lo r.2) ?_ ?_ _ _ _ ⟨rfl,rfl,Nat.le_refl _,by rw [List.length_range'];dsimp only;omega,u2⟩) ?_
 ·rintro x k ⟨r,m⟩ st ⟨rfl,rfl,a1,a2,u⟩;dsimp only at a1 a2 u
  (lcg_src;lcg_sub)
  refine wpS_bind (jk L G2 (by omega) (by omega) ?_);lcg_src
  cases e:c (ka cI (lo + m)) (ka cI (lo + m - 1)) with
  | true=>exact aA (fun _=>wpS_pure ⟨rfl,rfl,a1,by dsimp only;omega,u⟩) fun z=>absurd rfl z
  | false =>
   refine aA (fun z=>nomatch z) fun _=>?_
   (lcg_src;lcg_sub)
   exact wpS_pure ⟨rfl,rfl,by dsimp only;omega,by dsimp only;omega,u.more L G2 (by omega) (by omega) (L.tot _ _ (G2.at_ (by omega)) (G2.at_ (by omega)) (G2.ne (by omega) (by omega) (by omega)) e)⟩
 ·rintro ⟨r,m⟩ st ⟨rfl,rfl,a1,a2,u⟩;exact ⟨rfl,rfl,a1,by omega,u⟩
 rintro ⟨r,m⟩ st ⟨rfl,rfl,a1,a2,u⟩;dsimp only at a1 a2 u
 (lcg_src;lcg_sub;lcg_sub)
 exact wpS_pure (q m cI (by omega) a2 (lc.mono (by omega)) u)
end
end TS
namespace TS
local macro_rules | `(tactic| lcg_src) => `(tactic| try dsimp (zeta := false) (zetaUnused := false) only)
local macro_rules | `(tactic| lcg_sub) => `(tactic| (extract_lets +onlyGivenNames -underBinder -merge -useContext zz; subst zz; try dsimp (zeta := false) (zetaUnused := false) only))
open PySem PySem.W PyProof.Rows
section
variable {prog:Program} {w:World} {A:Around} {s:Shared} {E:Value->Shared->Prop} {κ:SortKind} {M:Keyed->Prop} {c:Keyed->Keyed->Bool}
theorem E8 {arr:Array Keyed} {lo k l:Nat} (hk:lo + k < arr.size) (hl:l <= k):Loc arr (bubble arr (lo + k) (lo + k - (lo + l))) lo (lo + k + 1):=by
 refine ⟨bubble_perm _ _ _,fun i z=>?_⟩;rw [getElem?_bubble hk _ (by omega),if_neg (by omega),if_neg (by omega)]
theorem G' (L : tF prog w A s κ M c) {arr : Array Keyed} {p : Array (Nat × Nat × Nat)} {g lo n ok : Nat} (G : Gd M arr) (hn : lo + n <= arr.size) (h1 : 1 <= ok) (h2 : ok <= n) (u : Ups c arr lo ok) {Q : Bool -> SortSt -> Prop}
    (q:∀ cb,Loc arr cb lo (lo + n)->Ups c cb lo n->Q true (Ms κ cb p g)):wpS (model prog w) A E s (binarySort' lo n ok) Q (Ms κ arr p g):=by
 rw [binarySort'_eq];refine wpS_bind ?_;rw [show max ok 1 = ok by omega];refine wpS_mono (Q:=fun (r:Option Bool × PUnit) st=>∃ cb,st = Ms κ cb p g/\r.1 = none/\Loc arr cb lo (lo + n)/\Ups c cb lo n)
  (wpS_forRange (fun k (r:Option Bool × PUnit) st=>∃ cb,st = Ms κ cb p g/\r.1 = none/\Loc arr cb lo (lo + n)/\Ups c cb lo k) ?_ ?_ ⟨arr,rfl,rfl,Loc.refl,u⟩) ?_
 ·rintro k ⟨r,_⟩ st CP vn ⟨cI,rfl,rfl,lc,u2⟩;have G2:=G.perm lc.pm;have sz:=lc.size
  (lcg_src;lcg_sub;lcg_sub)
  refine wpS_bind ?_;rw [range_list];refine wpS_mono (Q:=fun (r:Option Bool × Nat × Nat) st=>st = Ms κ cI p g/\r.1 = none/\r.2.1 <= k/\(∀ j,j < r.2.1->c (ka cI (lo + j)) (ka cI (lo + k)) = true)/\(∀ j,r.2.1 <= j->j < k->c (ka cI (lo + k)) (ka cI (lo + j)) = true))
   (nv (fun f (r:Option Bool × Nat × Nat) st=>st = Ms κ cI p g/\r.1 = none/\r.2.1 <= r.2.2/\r.2.2 <= k/\f = r.2.2 - r.2.1/\(∀ j,j < r.2.1->c (ka cI (lo + j)) (ka cI (lo + k)) = true)/\(∀ j,r.2.2 <= j->j < k->c (ka cI (lo + k)) (ka cI (lo + j)) = true)) ?_ ?_ _ k _ _ (by rw [List.length_range'];exact Nat.le_refl _) ⟨rfl,rfl,Nat.zero_le _,Nat.le_refl _,rfl,fun j z=>absurd z (Nat.not_lt_zero _),fun j z y=>by dsimp only at z;omega⟩) ?_
  ·rintro _ f ⟨r0,l,r⟩ st ⟨rfl,rfl,b1,b2,b3,b4,b5⟩;dsimp only at b1 b2 b3 b4 b5
   (lcg_src;lcg_sub;lcg_sub;lcg_sub)
   refine aA (fun e=>wpS_pure ⟨rfl,rfl,by dsimp only;omega,b4,fun j y z=>b5 j (by dsimp only at y;omega) z⟩) fun e=>?_
   (lcg_src;lcg_sub)
   refine wpS_bind (jk L G2 (by omega) (by omega) ?_);lcg_src
   cases e2:c (ka cI (lo + k)) (ka cI (lo + (l + r) / 2)) with
   | true =>
    refine aA (fun _=>?_) fun z=>absurd rfl z
    (lcg_src;lcg_sub)
    refine wpS_pure ⟨_,show (l + r) / 2 - l < f by omega,rfl,rfl,by dsimp only;omega,by dsimp only;omega,rfl,b4,fun j y z=>?_⟩;dsimp only at y
    by_cases z2:j = (l + r) / 2
    ·rw [z2];exact e2
    ·exact L.trans _ _ _ (G2.at_ (by omega)) (G2.at_ (by omega)) (G2.at_ (by omega)) e2 (u2 _ _ (by omega) z)
   | false =>
    refine aA (fun z=>nomatch z) fun _=>?_
    (lcg_src;lcg_sub)
    have e':=L.tot _ _ (G2.at_ (by omega)) (G2.at_ (by omega)) (G2.ne (by omega) (by omega) (by omega)) e2;refine wpS_pure ⟨_,show r - ((l + r) / 2 + 1) < f by omega,rfl,rfl,by dsimp only;omega,by dsimp only;omega,rfl,fun j y=>?_,b5⟩
    dsimp only at y
    by_cases z2:j = (l + r) / 2
    ·rw [z2];exact e'
    ·exact L.trans _ _ _ (G2.at_ (by omega)) (G2.at_ (by omega)) (G2.at_ (by omega)) (u2 _ _ (by omega) (by omega)) e'
  ·rintro ⟨r0,l,r⟩ st ⟨rfl,rfl,b1,b2,b3,b4,b5⟩;dsimp only at b1 b2 b3 b4 b5;exact ⟨rfl,rfl,by dsimp only;omega,b4,fun j y z=>b5 j (by dsimp only at y;omega) z⟩
  rintro ⟨r0,l,r⟩ st ⟨rfl,rfl,b1,b4,b5⟩;dsimp only at b1 b4 b5
  (lcg_src;lcg_sub;lcg_sub;lcg_sub)
  rw [moveDown'_eq];refine wpS_bind (wpS_modify (wpS_pure ⟨bubble cI (lo + k) (lo + k - (lo + l)),rfl,rfl,lc.trans ((E8 (by omega) b1).mono (by omega)),fun i j vo hj=>?_⟩));have e:∀ i,ka (bubble cI (lo + k) (lo + k - (lo + l))) (lo + i) = if i = l then ka cI (lo + k) else if l < i/\i <= k then ka cI (lo + (i - 1)) else ka cI (lo + i):=fun i=>by
   have:=getElem?_bubble (xs:=cI) (src:=lo + k) (by omega) (lo + k - (lo + l)) (by omega) (lo + i)
   by_cases e1:i = l
   ·rw [if_pos e1];rw [if_pos (by omega)] at this;exact me this
   ·rw [if_neg e1];rw [if_neg (by omega)] at this
    by_cases e2:l < i/\i <= k
    ·rw [if_pos e2];rw [if_pos (by omega),show lo + i - 1 = lo + (i - 1) by omega] at this;exact me this
    ·rw [if_neg e2];rw [if_neg (by omega)] at this;exact me this
  rw [e,e]
  by_cases e1:i = l
  ·rw [if_pos e1,if_neg (by omega),if_pos ⟨by omega,by omega⟩];exact b5 _ (by omega) (by omega)
  ·rw [if_neg e1]
   by_cases e2:l < i/\i <= k
   ·rw [if_pos e2,if_neg (by omega),if_pos ⟨by omega,by omega⟩];exact u2 _ _ (by omega) (by omega)
   ·rw [if_neg e2]
    by_cases e3:j = l
    ·rw [if_pos e3];exact b4 i (by omega)
    ·rw [if_neg e3]
     by_cases e4:l < j/\j <= k
     ·rw [if_pos e4];exact u2 _ _ (by omega) (by omega)
     ·rw [if_neg e4];exact u2 _ _ vo (by omega)
 ·rintro ⟨r,_⟩ st ⟨cI,rfl,rfl,lc,u2⟩;rw [show max ok n = n by omega] at u2;exact ⟨cI,rfl,rfl,lc,u2⟩
 ·rintro ⟨r,_⟩ st ⟨cI,rfl,rfl,lc,u2⟩;exact wpS_pure (q cI lc u2)
end
end TS
namespace TS
local macro_rules | `(tactic| lcg_src) => `(tactic| try dsimp (zeta := false) (zetaUnused := false) only)
local macro_rules | `(tactic| lcg_sub) => `(tactic| (extract_lets +onlyGivenNames -underBinder -merge -useContext zz; subst zz; try dsimp (zeta := false) (zetaUnused := false) only))
open PySem PySem.W PyProof.Rows
def Runs (c:Keyed->Keyed->Bool) (arr:Array Keyed):Nat->List (Nat × Nat × Nat)->Nat->Prop
 | s,[],e=>s = e
 | s,x :: l,e=>x.1 = s/\0 < x.2.1/\Ups c arr s x.2.1/\Runs c arr (s + x.2.1) l e
section
variable {c:Keyed->Keyed->Bool} {arr cb:Array Keyed}
theorem Runs.len:∀ {l:List (Nat × Nat × Nat)} {s e:Nat},Runs c arr s l e->l.length + s <= e
 | [],s,e,h=>by rw [show s = e from h];simp
 | x :: l,s,e,h=>by
  have:=h.2.2.2.len;have:=h.2.1;rw [List.length_cons];omega
theorem Runs.same:∀ {l:List (Nat × Nat × Nat)} {s e:Nat},Runs c arr s l e->(∀ i,s <= i->i < e->cb[i]? = arr[i]?)->Runs c cb s l e
 | [],s,e,h,_=>h
 | x :: l,s,e,h,k=>by
  have:=h.2.2.2.len;refine ⟨h.1,h.2.1,fun i j vo hj=>?_,h.2.2.2.same fun i a b=>k i (by omega) b⟩
  rw [me (k (s + i) (by omega) (by omega)),me (k (s + j) (by omega) (by omega))];exact h.2.2.1 i j vo hj
theorem Runs.append:∀ {l l':List (Nat × Nat × Nat)} {s e:Nat},Runs c arr s (l ++ l') e ↔ ∃ m,Runs c arr s l m/\Runs c arr m l' e
 | [],l',s,e=>⟨fun h=>⟨s,rfl,h⟩,fun ⟨m,h1,h2⟩=>by rw [show s = m from h1];exact h2⟩
 | x :: l, l', s, e => ⟨fun h => by
     obtain ⟨m,h1,h2⟩:=Runs.append.mp h.2.2.2;exact ⟨m,⟨h.1,h.2.1,h.2.2.1,h1⟩,h2⟩,fun ⟨m,h1,h2⟩=>⟨h1.1,h1.2.1,h1.2.2.1,Runs.append.mpr ⟨m,h1.2.2.2,h2⟩⟩⟩
theorem Runs.third:∀ {l l':List (Nat × Nat × Nat)} {s e:Nat},Runs c arr s l e->l'.map (fun x=>(x.1,x.2.1)) = l.map (fun x=>(x.1,x.2.1))->Runs c arr s l' e
 | [],[],_,_,h,_=>h
 | x :: l,y :: l',s,e,h,k=>by
  simp only [List.map_cons,List.cons.injEq,Prod.mk.injEq] at k;obtain ⟨⟨k1,k2⟩,k3⟩:=k;refine ⟨by rw [k1];exact h.1,by rw [k2];exact h.2.1,by rw [k2];exact h.2.2.1,by rw [k2];exact h.2.2.2.third k3⟩
 | [],_ :: _,_,_,_,k=>by simp at k
 | _ :: _,[],_,_,_,k=>by simp at k
theorem EG {p:Array (Nat × Nat × Nat)} {i:Nat} (h:i + 1 < p.size):∃ l1 l2 x y,p.toList = l1 ++ x :: y :: l2/\l1.length = i/\p[i]? = some x/\p[i + 1]? = some y/\∀ z,((p.setIfInBounds i z).eraseIdxIfInBounds (i + 1)).toList = l1 ++ z :: l2:=by
 have h1:i < p.toList.length:=by rw [Array.length_toList];omega
 have h2:i + 1 < p.toList.length:=by rw [Array.length_toList];omega
 have e:p.toList = p.toList.take i ++ p.toList[i] :: p.toList[i + 1] :: p.toList.drop (i + 2):=by
  rw [<- List.drop_eq_getElem_cons h2,<- List.drop_eq_getElem_cons h1,List.take_append_drop]
 have hl:(p.toList.take i).length = i:=by rw [List.length_take];omega
 refine ⟨p.toList.take i,p.toList.drop (i + 2),p.toList[i],p.toList[i + 1],e,hl,by rw [<- Array.getElem?_toList,List.getElem?_eq_getElem h1],by rw [<- Array.getElem?_toList,List.getElem?_eq_getElem h2],fun z=>?_⟩;rw [Array.eraseIdxIfInBounds];rw [dif_pos (by rw [Array.size_setIfInBounds];omega),Array.toList_eraseIdx,Array.toList_setIfInBounds];generalize p.toList.take i = l1 at *;generalize p.toList.drop (i + 2) = l2 at *;rw [e,List.set_append_right _ _ (by omega),hl,Nat.sub_self,List.set_cons_zero,List.eraseIdx_append_of_length_le (by omega),hl,show i + 1 - i = 1 by omega]
 rfl
end
section
variable {prog:Program} {w:World} {A:Around} {s:Shared} {E:Value->Shared->Prop} {κ:SortKind} {M:Keyed->Prop} {c:Keyed->Keyed->Bool}
theorem qd (L : tF prog w A s κ M c) {arr : Array Keyed} {p : Array (Nat × Nat × Nat)} {g i e : Nat} (G : Gd M arr) (R : Runs c arr 0 p.toList e) (he : e <= arr.size) (hi : i + 1 < p.size) {Q : Bool -> SortSt -> Prop}
    (q:∀ cb p' g',cb.Perm arr->(∀ i,e <= i->cb[i]? = arr[i]?)->Runs c cb 0 p'.toList e->p'.size + 1 = p.size->Q true (Ms κ cb p' g')):wpS (model prog w) A E s (mergeAt' i) Q (Ms κ arr p g):=by
 obtain ⟨l1,l2,⟨sa,na,p1⟩,⟨sb,nb,p2⟩,ep,hl,h1,h2,hz⟩:=EG hi;rw [ep] at R;obtain ⟨m,R1,R2⟩:=Runs.append.mp R;obtain ⟨e1,n1,u1,R3⟩:=R2;obtain ⟨e2,n2,u2,R4⟩:=R3;dsimp only at e1 n1 u1 e2 n2 u2 R4;subst e1;have l4:=R4.len;have l1':=R1.len;refine wt L h1 h2 e2 (by omega) n1 n2 (u1.srt (by omega)) (by rw [e2];exact u2.srt (by omega)) G.mm G.nd fun cb g' mm a1 a2 a3=>?_
 have CN:(arr.toList.take sa).length = sa:=by rw [List.length_take,Array.length_toList];omega
 have hmm:mm.length = na + nb:=by rw [a2.length_eq,List.length_take,List.length_drop,Array.length_toList];omega
 have Fz:arr.toList = arr.toList.take sa ++ (arr.toList.drop sa).take (na + nb) ++ arr.toList.drop (sb + nb):=by
  rw [e2,Nat.add_assoc,<- List.drop_drop,List.append_assoc,List.take_append_drop,List.take_append_drop]
 have pm:cb.Perm arr:=by
  rw [Array.perm_iff_toList_perm,a1];rw (config:={ occs:=.pos [3] }) [Fz];exact List.Perm.append_right _ (List.Perm.append_left _ a2)
 have out:∀ i,i < sa \/ sb + nb <= i->cb[i]? = arr[i]?:=fun i hi=>by
  rw [<- Array.getElem?_toList,<- Array.getElem?_toList,a1]
  rcases hi with hi | hi
  ·rw [List.append_assoc,List.getElem?_append_left (by omega),List.getElem?_take_of_lt hi]
  ·rw [List.getElem?_append_right (by rw [List.length_append];omega),List.getElem?_drop,List.length_append]
   congr 1
   omega
 have seg:(cb.toList.drop sa).take (na + nb) = mm:=by
  rw [a1,List.append_assoc,List.drop_append_of_le_length (by omega),List.drop_of_length_le (by omega),List.nil_append,List.take_append_of_le_length (by omega),List.take_of_length_le (by omega)]
 refine q cb _ g' pm (fun i hi=>out i (by omega)) ?_ ?_
 ·rw [hz];refine Runs.append.mpr ⟨sa,R1.same fun i _ b=>out i (.inl b),rfl,by dsimp only;omega,?_,?_⟩
  ·dsimp only;refine Ups.of_srt (by rw [pm.size_eq];omega) ?_;rw [seg];exact a3
  ·dsimp only;rw [show sa + (na + nb) = sa + na + nb by omega];exact R4.same fun i a _=>out i (.inr (by omega))
 ·rw [<- Array.length_toList,hz,<- Array.length_toList (xs:=p),ep];simp only [List.length_append,List.length_cons];omega
end
end TS
namespace TS
local macro_rules | `(tactic| lcg_src) => `(tactic| try dsimp (zeta := false) (zetaUnused := false) only)
local macro_rules | `(tactic| lcg_sub) => `(tactic| (extract_lets +onlyGivenNames -underBinder -merge -useContext zz; subst zz; try dsimp (zeta := false) (zetaUnused := false) only))
open PySem PySem.W PyProof.Rows
section
variable {prog:Program} {w:World} {A:Around} {s:Shared} {E:Value->Shared->Prop} {κ:SortKind} {M:Keyed->Prop} {c:Keyed->Keyed->Bool}
theorem Jo {C:Prop} [Decidable C] {n:Nat} (h:2 <= n):(if C then n - 2 - 1 else n - 2) + 1 < n:=by split <;> omega
theorem zE {p:Array (Nat × Nat × Nat)} {j:Nat} {f:Nat × Nat × Nat->Nat × Nat × Nat} (hf:∀ x,(f x).1 = x.1/\(f x).2.1 = x.2.1):(p.modify j f).toList.map (fun x=>(x.1,x.2.1)) = p.toList.map (fun x=>(x.1,x.2.1)):=by
 rw [Array.toList_modify];apply List.ext_getElem?;intro i;rw [List.getElem?_map,List.getElem?_map,List.getElem?_modify]
 cases p.toList[i]? with
 | none=>rfl
 | some x =>
  by_cases z:j = i
  ·show some ((if j = i then f x else x).1,(if j = i then f x else x).2.1) = _
   rw [if_pos z];show some ((f x).1,(f x).2.1) = _;rw [(hf x).1,(hf x).2]
   rfl
  ·show some ((if j = i then f x else x).1,(if j = i then f x else x).2.1) = _
   rw [if_neg z]
   rfl
theorem DL (L : tF prog w A s κ M c) {a₀ : Array Keyed} (G : Gd M a₀) (h2 : 2 <= a₀.size) {g : Nat} {Q : Unit -> SortSt -> Prop} (q : ∀ arr p g, arr.Perm a₀ -> Ups c arr 0 a₀.size -> Q () (Ms κ arr p g)) :
    wpS (model prog w) A E s sortRuns' Q (Ms κ a₀ #[] g):=by
 rw [sortRuns'_eq];refine wpS_bind (wpS_get ?_)
 (lcg_src;lcg_sub;lcg_sub;lcg_sub)
 have Kt:(arrOf (Ms κ a₀ #[] g)).size = a₀.size:=rfl;rw [Kt];generalize minRun' a₀.size a₀.size 0 = SI;refine wpS_bind ?_;rw [range_list];refine wpS_mono (Q:=fun (r:Option Unit × Nat) st=>∃ arr p g,st = Ms κ arr p g/\r.1 = none/\arr.Perm a₀/\Runs c arr 0 p.toList a₀.size)
  (nv (fun k (r:Option Unit × Nat) st=>∃ arr p g,st = Ms κ arr p g/\r.1 = none/\arr.Perm a₀/\r.2 <= a₀.size/\Runs c arr 0 p.toList r.2/\k = a₀.size - r.2) ?_ ?_ _ a₀.size _ _ (by rw [List.length_range'];exact Nat.le_refl _) ⟨a₀,#[],g,rfl,rfl,Array.Perm.refl _,Nat.zero_le _,rfl,rfl⟩) ?_
 ·rintro _ k ⟨r0,lo⟩ st ⟨arr,p,g,rfl,rfl,pm,N2,R,hk⟩;dsimp only at N2 R hk
  (lcg_src;lcg_sub)
  refine aA (fun e=>wpS_pure ⟨arr,p,g,rfl,rfl,pm,by rw [show lo = a₀.size by omega] at R;exact R⟩) fun e=>?_
  have sz:=pm.size_eq;refine wpS_bind (AE L (G.perm pm) (by omega) (by omega) fun n p8 n1 n2 lc u=>?_)
  (lcg_src;lcg_sub)
  (extract_lets +onlyGivenNames -underBinder -merge -useContext J;clear_value (hJ:J = _))
  have R1:Runs c p8 0 p.toList lo:=R.same fun i _ b=>lc.out i (.inl b)
  have EC:=lc.pm.trans pm;have j:∀ n p8,1 <= n->lo + n <= a₀.size->p8.Perm a₀->Runs c p8 0 p.toList lo->Ups c p8 lo n->wpS (model prog w) A E s (J () n) (Dt (fun (r:Option Unit × Nat) st=>∃ arr p g,st = Ms κ arr p g/\r.1 = none/\arr.Perm a₀/\Runs c arr 0 p.toList a₀.size) fun (r:Option Unit × Nat) st=>∃ k',k' < k/\∃ arr p g,st = Ms κ arr p g/\r.1 = none/\arr.Perm a₀/\r.2 <= a₀.size/\Runs c arr 0 p.toList r.2/\k' = a₀.size - r.2) (Ms κ p8 p g):=fun n p8 n1 n2 EC R1 u=>by
   rw [hJ];lcg_src;refine wpS_bind (wpS_get ?_)
   (extract_lets +onlyGivenNames -underBinder -merge -useContext J2;clear_value (JG:J2 = _))
   have j2:∀ cI p2 g2,cI.Perm a₀->Runs c cI 0 p2.toList lo->Ups c cI lo n->wpS (model prog w) A E s (J2 ()) (Dt (fun (r:Option Unit × Nat) st=>∃ arr p g,st = Ms κ arr p g/\r.1 = none/\arr.Perm a₀/\Runs c arr 0 p.toList a₀.size) fun (r:Option Unit × Nat) st=>∃ k',k' < k/\∃ arr p g,st = Ms κ arr p g/\r.1 = none/\arr.Perm a₀/\r.2 <= a₀.size/\Runs c arr 0 p.toList r.2/\k' = a₀.size - r.2) (Ms κ cI p2 g2):=fun cI p2 g2 Iz R2 u2=>by
    rw [JG];lcg_src;refine wpS_bind (wpS_modify ?_)
    (lcg_src;lcg_sub)
    refine wpS_pure ⟨_,show a₀.size - (lo + n) < k by omega,cI,p2.push (lo,n,0),g2,rfl,rfl,Iz,n2,?_,rfl⟩;rw [Array.toList_push];exact Runs.append.mpr ⟨lo,R2,rfl,by dsimp only;omega,u2,rfl⟩
   cases hb:p.back? with
   | none =>
    lcg_src;exact j2 p8 p g EC R1 u
   | some x =>
    obtain ⟨s1,m1,p1⟩:=x
    (lcg_src;lcg_sub)
    have p0:0 < p.size:=by
     rcases Nat.eq_zero_or_pos p.size with z | z
     ·rw [Array.back?_eq_getElem?,Array.getElem?_eq_none (by omega)] at hb;cases hb
     ·exact z
    refine wpS_bind ?_;rw [range_list];have Jb:=R1.len;rw [Array.length_toList] at Jb;refine wpS_mono (Q:=fun (r:Option Unit × Unit) st=>r.1 = none/\∃ arr p g,st = Ms κ arr p g/\arr.Perm a₀/\Runs c arr 0 p.toList lo/\Ups c arr lo n)
     (dj (fun k (r:Option Unit × Unit) st=>r.1 = none/\∃ arr p g,st = Ms κ arr p g/\arr.Perm a₀/\Runs c arr 0 p.toList lo/\Ups c arr lo n/\k = p.size - 1) ?_ _ (p.size - 1) _ _ (by rw [List.length_range'];omega) ⟨rfl,p8,p,g,rfl,EC,R1,u,rfl⟩) ?_
    ·rintro _ k2 ⟨r0,_⟩ st ⟨rfl,kK,p3,g3,rfl,wb,R3,u3,ng⟩;have sz3:=wb.size_eq;lcg_src;refine wpS_bind (wpS_get ?_)
     (lcg_src;lcg_sub)
     by_cases hp:p3.size > 1
     ·rw [show (if (pendingOf (Ms κ kK p3 g3)).size > 1 then (pendingOf (Ms κ kK p3 g3))[(pendingOf (Ms κ kK p3 g3)).size - 2]? else none) = some p3[p3.size - 2] from (if_pos hp).trans (Array.getElem?_eq_getElem (show p3.size - 2 < p3.size by omega))]
      generalize p3[p3.size - 2] = y;obtain ⟨y1,y2,YV⟩:=y;lcg_src;refine aA (fun _=>wpS_pure ⟨rfl,kK,p3,g3,rfl,wb,R3,u3⟩) fun _=>?_
      refine wpS_bind (qd L (G.perm wb) R3 (by omega) (show p3.size - 2 + 1 < p3.size by omega) fun J0 p4 g4 a1 a2 a3 a4=>?_)
      refine aA (fun z=>nomatch z) fun _=>?_
      refine wpS_pure ⟨_,show p4.size - 1 < k2 by omega,rfl,J0,p4,g4,rfl,a1.trans wb,a3,fun i j vo hj=>?_,rfl⟩;rw [me (a2 (lo + i) (by omega)),me (a2 (lo + j) (by omega))];exact u3 i j vo hj
     ·rw [show (if (pendingOf (Ms κ kK p3 g3)).size > 1 then (pendingOf (Ms κ kK p3 g3))[(pendingOf (Ms κ kK p3 g3)).size - 2]? else none) = none from if_neg hp]
      lcg_src;exact wpS_pure ⟨rfl,kK,p3,g3,rfl,wb,R3,u3⟩
    ·rintro ⟨r0,_⟩ st ⟨rfl,kK,p3,g3,rfl,wb,R3,u3⟩
     (lcg_src;lcg_sub)
     refine wpS_bind (wpS_modify ?_);refine j2 kK (p3.modify (p3.size - 1) _) g3 wb (R3.third (zE ?_)) u3;rintro ⟨x1,x2,x3⟩;exact ⟨rfl,rfl⟩
  refine aA (fun hm=>?_) fun hm=>?_
  ·refine wpS_bind (jj ?_)
   (lcg_src;lcg_sub)
   refine wpS_bind (G' L (G.perm EC) (by rw [EC.size_eq];omega) n1 (by omega) u fun cI Y5 u2=>?_)
   refine aA (fun z=>nomatch z) fun _=>?_
   (lcg_src;lcg_sub)
   exact j _ cI (by omega) (by omega) (Y5.pm.trans EC) (R1.same fun i _ b=>Y5.out i (.inl b)) u2
  ·exact j n p8 n1 (by omega) EC R1 u
 ·rintro ⟨r0,lo⟩ st ⟨arr,p,g,rfl,rfl,pm,N2,R,hk⟩;dsimp only at N2 R hk;exact ⟨arr,p,g,rfl,rfl,pm,by rw [show lo = a₀.size by omega] at R;exact R⟩
 rintro ⟨r0,lo⟩ st ⟨arr,p,g,rfl,rfl,pm,R⟩
 (lcg_src;lcg_sub;lcg_sub)
 refine wpS_bind ?_;rw [range_list];have Jb:=R.len;rw [Array.length_toList] at Jb;refine wpS_mono (Q:=fun (r:Option Unit × Unit) st=>r.1 = none/\∃ arr p g,st = Ms κ arr p g/\arr.Perm a₀/\Runs c arr 0 p.toList a₀.size/\p.size <= 1)
  (dj (fun k (r:Option Unit × Unit) st=>r.1 = none/\∃ arr p g,st = Ms κ arr p g/\arr.Perm a₀/\Runs c arr 0 p.toList a₀.size/\k = p.size - 1) ?_ _ (p.size - 1) _ _ (by rw [List.length_range'];omega) ⟨rfl,arr,p,g,rfl,pm,R,rfl⟩) ?_
 ·rintro _ k2 ⟨r0,_⟩ st ⟨rfl,kK,p3,g3,rfl,wb,R3,ng⟩
  (lcg_src;lcg_sub)
  refine wpS_bind (wpS_get ?_)
  (lcg_src;lcg_sub)
  refine aA (fun e=>wpS_pure ⟨rfl,kK,p3,g3,rfl,wb,R3,e⟩) fun e=>?_
  have e:¬ p3.size <= 1:=e
  (lcg_src;lcg_sub;lcg_sub;lcg_sub)
  refine wpS_bind (qd L (G.perm wb) R3 (by rw [wb.size_eq];exact Nat.le_refl _) ?_ fun J0 p4 g4 a1 a2 a3 a4=>?_)
  ·exact Jo (show 2 <= p3.size by omega)
  ·refine aA (fun z=>nomatch z) fun _=>?_
   exact wpS_pure ⟨_,show p4.size - 1 < k2 by omega,rfl,J0,p4,g4,rfl,a1.trans wb,a3,rfl⟩
 ·rintro ⟨r0,_⟩ st ⟨rfl,kK,p3,g3,rfl,wb,R3,hp⟩
  (lcg_src;lcg_sub)
  refine wpS_pure (q kK p3 g3 wb ?_);have hl:p3.toList.length <= 1:=by rw [Array.length_toList];exact hp
  match qL:p3.toList,hl with
  | [],_ =>
   rw [qL] at R3;have:0 = a₀.size:=R3;omega
  | [x],_ =>
   rw [qL] at R3;obtain ⟨_,_,u,e⟩:=R3;have e:0 + x.2.1 = a₀.size:=e;rw [show x.2.1 = a₀.size by omega] at u;exact u
end
end TS
namespace L2
open PySem PySem.Spec PySem.W PyProof.Rows
variable {H H':Hp} {v:V} {u:Value}
abbrev RK:=Str × Int
variable {k a b:RK}
def eT (a b:RK):Bool:=if a.1 = b.1 then decide (a.2 < b.2) else decide (a.1.cps.toList < b.1.cps.toList)
def KeyT (H:Hp) (v:V) (k:RK):Prop:=∃ a,v = .ref a/\H a = some (.tup [.str k.1,.int k.2])
def KeyTs (H:Hp):List V->List RK->Prop
 | [],[]=>True
 | v :: vs,k :: ks=>KeyT H v k/\KeyTs H vs ks
 | _,_=>False
theorem KeyT.same (h:KeyT H v k) (s:Same H H'):KeyT H' v k:=by
 obtain ⟨a,e,h⟩:=h;exact ⟨a,e,s a _ h⟩
theorem KeyTs.same {H H':Hp} (s:Same H H'):∀ {vs:List V} {ks:List RK},KeyTs H vs ks->KeyTs H' vs ks
 | [],[],_=>trivial
 | _ :: _,_ :: _,h=>⟨h.1.same s,h.2.same s⟩
 | [],_ :: _,h=>h.elim
 | _ :: _,[],h=>h.elim
theorem KeyTs.snoc {H:Hp}:∀ {vs:List V} {ks:List RK} {v:V} {k:RK},KeyTs H vs ks->KeyT H v k->KeyTs H (vs ++ [v]) (ks ++ [k])
 | [],[],_,_,_,h=>⟨h,trivial⟩
 | _ :: _,_ :: _,_,_,h,h'=>⟨h.1,h.2.snoc h'⟩
 | [],_ :: _,_,_,h,_=>h.elim
 | _ :: _,[],_,_,h,_=>h.elim
theorem KeyTs.len {H:Hp}:∀ {vs:List V} {ks:List RK},KeyTs H vs ks->vs.length = ks.length
 | [],[],_=>rfl
 | _ :: _,_ :: _,h=>by rw [List.length_cons,List.length_cons,h.2.len]
 | [],_ :: _,h=>h.elim
 | _ :: _,[],h=>h.elim
theorem KeyTs.at_ {H:Hp}:∀ {vs:List V} {ks:List RK} {us:List Value} {i:Nat},KeyTs H vs ks->Vals vs us->(hi:i < ks.length)->∃ v,RelV v (us.getD i Value.none)/\KeyT H v (ks.getD i (⟨#[]⟩,0))
 | v :: vs,k :: ks,us,0,h,r,_=>by
  cases r with
  | cons r1 r2=>exact ⟨v,r1,h.1⟩
 | v :: vs,k :: ks,us,i + 1,h,r,hi=>by
  cases r with
  | cons r1 r2 =>
   obtain ⟨v',a,b⟩:=KeyTs.at_ (i:=i) h.2 r2 (by rw [List.length_cons] at hi;omega);exact ⟨v',by rw [List.getD_cons_succ];exact a,by rw [List.getD_cons_succ];exact b⟩
 | [],_ :: _,_,_,h,_,_=>h.elim
 | _ :: _,[],_,_,h,_,_=>h.elim
 | [],[],_,_,_,_,hi=>absurd hi (Nat.not_lt_zero _)
section
variable {X:Cx} {pins:List (Addr × Obj)} {σ:St} {s:Shared} {A:Around} {E:Value->Shared->Prop}
theorem sP (I:Inv X pins σ H s) (h:KeyT H v k) (r:RelV v u):∃ a o t t' n,u = .ref a/\s.heap.get? a = some o/\o.cls = .type "tuple"/\o.data = .seq #[.str k.1 t,.int k.2 t'] n:=by
 obtain ⟨a,rfl,ha⟩:=h;obtain rfl:u = Value.ref a:=r;obtain ⟨its,rv,p,_⟩:=I.tuple (SqT.of ha)
 cases rv with
 | cons r1 rr =>
  cases rr with
  | cons r2 rr =>
   cases rr
   obtain ⟨t,rfl⟩:=r1;obtain ⟨t',rfl⟩:=r2;obtain ⟨o,ho,hc,n,hd⟩:=(show s.heap.IsTuple a _ from p);exact ⟨a,o,t,t',n,rfl,ho,hc,hd⟩
theorem JZ (I : Inv X pins σ H s) {v' : V} {u' : Value} {k' : RK} (h : KeyT H v k) (h' : KeyT H v' k') (r : RelV v u) (r' : RelV v' u') {C : Bool -> Shared -> Prop} (q : C (eT k k') s) :
    wpAny (model X.prog X.w) A (keyLt' (tuples' true) u u') C E s:=by
 obtain ⟨a,o,t1,t2,n,rfl,ho,_,hd⟩:=sP I h r;obtain ⟨b,o',t3,t4,n',rfl,vj,_,CS⟩:=sP I h' r';unfold eT at q;refine kat_lt ho hd vj CS (kat_cons (wpAny_eqBool_str (kat_go (fun e=>kat_yes (kat_cons (wpAny_eqBool_int (kat_go (fun e2=>kat_yes (kat_nil ?_)) (fun e2=>kat_no (kat_one _ _ (lt_int ?_))))))) (fun e=>kat_no (oneLt_str ?_)))))
 ·have e1:=of_decide_eq_true e;have e2:=eq_of_beq e2;rw [if_pos e1,e2,decide_eq_false (Int.lt_irrefl _)] at q;exact q
 ·have e1:=of_decide_eq_true e;rw [if_pos e1] at q;exact q
 ·have e1:=of_decide_eq_false e;rw [if_neg e1] at q;exact q
theorem vg (I:Inv X pins σ H s):∀ {vs:List V} {ks:List RK} {us:List Value},KeyTs H vs ks->Vals vs us->∃ fs:List Value,KatTups s.heap us fs/\fs.length = ks.length/\∀ f ∈ fs,∃ z t,f = .str z t
 | [],[],us,_,r=>by cases r;exact ⟨[],trivial,rfl,fun _ h=>by cases h⟩
 | v :: vs,k :: ks,us,h,r=>by
  cases r with
  | cons r1 r2 =>
   obtain ⟨fs,a1,a2,a3⟩:=vg I h.2 r2;obtain ⟨a,o,t,t',n,rfl,ho,hc,hd⟩:=sP I h.1 r1;refine ⟨.str k.1 t :: fs,KatTups.cons ho hc hd rfl a1,by rw [List.length_cons,List.length_cons,a2],fun f hf=>?_⟩
   rcases List.mem_cons.mp hf with rfl | hf
   ·exact ⟨_,_,rfl⟩
   ·exact a3 f hf
 | [],_ :: _,_,h,_=>h.elim
 | _ :: _,[],_,h,_=>h.elim
theorem Dr (I:Inv X pins σ H s) {vs:List V} {ks:List RK} {us:List Value} (h:KeyTs H vs ks) (r:Vals vs us) (h0:0 < ks.length) {Q:SortKind->Shared->Prop} (q:Q (tuples' true) s):wpAny (model X.prog X.w) A (keyKind' us.toArray) Q E s:=by
 obtain ⟨fs,a1,a2,a3⟩:=vg I h r;refine kat_kind (T:=.type "str") a1 (by omega) (fun f hf=>?_) rfl q
 obtain ⟨z,t,rfl⟩:=a3 f hf;exact .now
end
theorem I0 (a:Str):¬ a.cps.toList < a.cps.toList:=List.lt_irrefl _
theorem oq {c:RK} (h1:eT a b = true) (h2:eT b c = true):eT a c = true:=by
 unfold eT at *
 by_cases e1:a.1 = b.1
 ·rw [if_pos e1] at h1
  by_cases e2:b.1 = c.1
  ·rw [if_pos e2] at h2;rw [if_pos (e1.trans e2)];have h1:=of_decide_eq_true h1;have h2:=of_decide_eq_true h2;exact decide_eq_true (by omega)
  ·rw [if_neg e2] at h2;rw [if_neg (by rw [e1];exact e2),e1];exact h2
 ·rw [if_neg e1] at h1
  by_cases e2:b.1 = c.1
  ·rw [if_neg (by rw [<- e2];exact e1),<- e2];exact h1
  ·rw [if_neg e2] at h2;have h1:=of_decide_eq_true h1;have h2:=of_decide_eq_true h2;have h3:=List.lt_trans h1 h2;have e3:a.1 ≠ c.1:=fun z=>by rw [z] at h1;exact absurd (List.lt_trans h1 h2) (I0 _)
   rw [if_neg e3];exact decide_eq_true h3
theorem Cy (a:RK):eT a a = false:=by
 unfold eT;rw [if_pos rfl];exact decide_eq_false (by omega)
theorem uW (h:eT a b = true):eT b a = false:=by
 cases e:eT b a with
 | false=>rfl
 | true=>have:=oq h e;rw [Cy] at this;cases this
theorem Cw (hne:a ≠ b) (h:eT a b = false):eT b a = true:=by
 unfold eT at *
 by_cases e:a.1 = b.1
 ·rw [if_pos e] at h;rw [if_pos e.symm];have h:=of_decide_eq_false h;have:a.2 ≠ b.2:=fun z=>hne (Prod.ext e z)
  exact decide_eq_true (by omega)
 ·rw [if_neg e] at h;rw [if_neg (Ne.symm e)];have h:=of_decide_eq_false h;have h2:b.1.cps.toList <= a.1.cps.toList:=List.not_lt.mp h;refine decide_eq_true ?_
  by_cases z:b.1.cps.toList < a.1.cps.toList
  ·exact z
  ·have h3:a.1.cps.toList <= b.1.cps.toList:=List.not_lt.mp z;exact absurd (bp (List.le_antisymm h3 h2)) e
section
variable {X:Cx} {pins:List (Addr × Obj)} {σ:St} {s:Shared} {A:Around} {E:Value->Shared->Prop}
theorem Inv.adopt {h' : Heap} {D : Addr} {xs : List V} {t' : Nat} (I : Inv X pins σ H s) (f : FpOk X pins H D) (k : ∀ b o, b ≠ D -> s.heap.get? b = some o -> h'.get? b = some o) (new : ObjOk X.prog X.w (upd H D (.lst xs)) h' D (.lst xs)) :
    Inv X pins σ (upd H D (.lst xs)) { s with heap:=h',toks:=t' }:=by
 obtain ⟨f0,f1,f2,f3,f4,f5⟩:=f;have nn:∀ b u,H b = some u->b ≠ D:=fun b u e z=>by rw [z,f0] at e;cases e
 have nc:∀ b,b ∉ [D]->b ≠ D:=fun b hb z=>hb (by rw [z];exact List.mem_singleton.mpr rfl)
 refine I.step (g':=s.gens) (d':=s.drawn) (ch:=[D]) (fun b hb=>?_) (fun b o _ _ hc e _=>k b o (nc b hc) e) (fun b o _ _ hc e _=>⟨o.slots,k b o (nc b hc) e⟩) (fun b o hc e q=>by rw [aD (nc b hc)];exact q)
  (fun b o hc e=>⟨o,k b o (nc b hc) e⟩) (fun b xs e=>by rw [aD (nn b _ e)];exact e) (fun b o u e=>by rw [aD (nn b _ e)];exact e) (fun b ps e=>⟨#[],by rw [aD (nn b _ e),e];simp⟩) (fun m hm=>?_) (fun b u e=>?_) I.bare
 ·rw [List.mem_singleton.mp hb];exact ⟨f3,f1,f4,f5⟩
 ·obtain ⟨o,es,ep,ho,r⟩:=hm;exact ⟨o,es,ep,k _ o (Ne.symm f1) ho,r⟩
 ·by_cases hb:b = D
  ·subst hb;rw [aE] at e
   cases e
   exact new
  ·rw [aD hb] at e;refine (I.hok b u e).stay (fun c v hc q=>k c v ?_ q) (fun c q=>by rw [aD (nn c _ q)];exact q) fun c xs q=>by rw [aD (nn c _ q)];exact q
   rcases hc with z | z
   ·rw [z];exact nn b u e
   ·exact nn c _ z
theorem FpOk.stack {b:Addr} (I:Inv X pins σ H s) (f:FpOk X pins H b):b ∉ tE X.stack:=fun z=>by
 rcases List.mem_cons.mp (I.stkSub b z) with z | z
 ·exact f.2.1 z
 ·exact f.2.2.1 z
theorem FpOk.at_ {b:Addr} (f:FpOk X pins H b) (n:H' b = none):FpOk X pins H' b:=⟨n,f.2⟩
structure SK (X:Cx) (pins:List (Addr × Obj)) (σ:St) (H:Hp) (D kS:Addr) (e1:Nat) (ks:List Value) (rk:List RK) (Hi:Hp) (s:Shared):Prop where
 I:Inv X pins σ Hi s
 sm:Same H Hi
 fk:FpOk X pins Hi kS
 fD:FpOk X pins Hi D
 ok:∃ e,s.heap.get? kS = some (seqObj "list" ks.toArray e)
 oD:s.heap.get? D = some (seqObj "list" #[] e1)
 ne:D ≠ kS
 kt:∃ aF,Vals aF ks/\KeyTs Hi aF rk
variable {kf:V->RK} {fv:Value} {D kS:Addr} {e1:Nat}
def vY (X:Cx) (A:Around) (fv:Value) (H:Hp) (kf:V->RK) (x:V):Prop:=∀ (s:Shared) (Hi:Hp) (u:Value),qb X.prog X.w X.K X.mg X.base A X.stack s Hi->X.K.In s.heap->Same H Hi->RelV x u ->
 wpAny (model X.prog X.w) A (call fv [u]) (fun v s'=>CE X.stack X.prog X.w Hi s (fun v H2=>∃ a,v = .ref a/\Same Hi H2/\H2 a = some (.tup [.str (kf x).1,.int (kf x).2])) v s') (fun _ _=>False) s
theorem CC (hA : A.frames = X.A.frames) {ks : List Value} {rk : List RK} {Hi : Hp} {xv : V} (S : SK X pins σ H D kS e1 ks rk Hi s) (hk : vY X A fv H kf xv) (ru : RelV xv u)
    (hz:ks.length < 100000) {R:Shared->Prop} (q:∀ kv Kg Hj s',Kg = ks ++ [kv]->SK X pins σ H D kS e1 Kg (rk ++ [kf xv]) Hj s'->R s') :
    wpAny (model X.prog X.w) A (call fv [u]) (fun v s1=>wpAny (model X.prog X.w) A (Builtin.List.listUpdate (.ref kS) (·.push v)) (fun _ s2=>R s2) E s1) (fun _ _=>False) s:=by
 have e0:qb X.prog X.w X.K X.mg X.base A X.stack s Hi:=⟨hA.trans S.I.ok.frames,S.I.env0.mod,S.I.env0.bs,S.I.env0.bsz,S.I.env0.funs,S.I.env0.frf,S.I.env0.hok,S.I.env0.bare⟩;refine wpAny_mono (hk s Hi u e0 S.I.kIn S.sm ru) (fun v s' hq=>?_) fun _ _ z=>z
 obtain ⟨kvv,Hj,os,bare,un,hok,rk1,a,rfl,sj,hj⟩:=hq;obtain rfl:v = Value.ref a:=rk1;have I2:Inv X pins σ Hj s':=S.I.call' os un hok bare (ch:=[]) (fun b z=>absurd z (by simp))
 obtain ⟨e,ok⟩:=S.ok;have gk:=un.keep kS _ ok S.fk.1 (S.fk.stack S.I) (by simp);have gD:=un.keep D _ S.oD S.fD.1 (S.fD.stack S.I) (by simp);have nk:=un.free kS _ ok S.fk.1 (by simp);have nD:=un.free D _ S.oD S.fD.1 (by simp);refine listUpdate_at gk rfl ?_ (by rw [List.size_toArray,sizeLine_eq];omega) (by rw [Array.size_push,List.size_toArray,sizeLine_eq];omega);have ep:(ks.toArray).push (.ref a) = (ks ++ [Value.ref a]).toArray:=by simp
 have Ks:=get?_update_seq gk (·.push (Value.ref a));rw [ep] at Ks;obtain ⟨_,g1,g2,g3,g4,g5⟩:=S.fk;obtain ⟨aF,rv2,kt⟩:=S.kt;refine q (.ref a) _ Hj { s' with heap:=s'.heap.update kS (Obj.mapSeq (·.push (Value.ref a))) } rfl ⟨?_,fun b o e=>sj b o (S.sm b o e),(S.fk.at_ nk),(S.fD.at_ nD),⟨_,Ks⟩,?_,S.ne,⟨aF ++ [.ref a],rv2.append (.cons (show RelV (V.ref a) (Value.ref a) from rfl) .nil),(kt.same sj).snoc ⟨a,rfl,hj⟩⟩⟩
 ·exact I2.turned (t':=s'.toks) (it:=kS) (fun b o hb e=>by rw [Heap.get?_update_other _ _ (Ne.symm hb)];exact e) nk g1 g3 g4 g5
 ·rw [Heap.get?_update_other _ _ (Ne.symm S.ne)];exact gD
end
end L2
namespace L2
open PySem PySem.Spec PySem.W PyProof.Rows TS
variable {X:Cx} {H Hi:Hp} {A:Around} {kf:V->RK} {ks us:List Value} {α β:Type} {xs:List V}
section
variable {pins:List (Addr × Obj)} {σ:St} {s:Shared} {E:Value->Shared->Prop}
variable {fv:Value} {D kS:Addr} {e1:Nat}
theorem qG (hA : A.frames = X.A.frames) {body : Value -> PUnit -> Sem (ForInStep PUnit)}
    (hb:∀ u (s:Shared) (R:Shared->Prop),wpAny (model X.prog X.w) A (call fv [u]) (fun v s1=>wpAny (model X.prog X.w) A (Builtin.List.listUpdate (.ref kS) (·.push v)) (fun _ s2=>R s2) E s1) (fun _ _=>False) s->wpAny (model X.prog X.w) A (body u ⟨⟩) (fun r s'=>r = .yield ⟨⟩/\R s') E s) :
    ∀ {xs:List V} {us ks:List Value} {rk:List RK} {Hi:Hp} {s:Shared},Vals xs us->(∀ y ∈ xs,vY X A fv H kf y)->ks.length + us.length < 100000->SK X pins σ H D kS e1 ks rk Hi s ->
     wpAny (model X.prog X.w) A (forIn us PUnit.unit body) (fun _ s'=>∃ Kg Hj,SK X pins σ H D kS e1 Kg (rk ++ xs.map kf) Hj s'/\Kg.length = ks.length + us.length) E s
 | [],us,ks,rk,Hi,s,r,_,_,S=>by
  cases r
  rw [List.forIn_nil];exact wpAny_pure ⟨ks,Hi,by rw [List.map_nil,List.append_nil];exact S,rfl⟩
 | y :: xs,us,ks,rk,Hi,s,r,hk,hz,S=>by
  cases r with
  | @cons _ u _ us r1 r2 =>
   rw [List.length_cons] at hz;rw [List.forIn_cons];refine wpAny_bind (wpAny_mono (hb u s (fun s'=>∃ kv Hj,SK X pins σ H D kS e1 (ks ++ [kv]) (rk ++ [kf y]) Hj s') (CC hA S (hk y List.mem_cons_self) r1 (by omega) fun kv Kg Hj s' e S'=>⟨kv,Hj,e ▸ S'⟩)) (fun r s' hq=>?_) fun _ _ z=>z)
   obtain ⟨rfl,kv,Hj,S'⟩:=hq;refine wpAny_mono (qG hA hb r2 (fun z LP=>hk z (List.mem_cons_of_mem _ LP)) (by rw [List.length_append,List.length_singleton];omega) S') (fun _ s2 ⟨ks2,Hk,S2,l2⟩=>⟨ks2,Hk,?_,?_⟩) fun _ _ z=>z
   ·rw [List.map_cons,<- List.singleton_append,<- List.append_assoc];exact S2
   ·rw [l2,List.length_append,List.length_singleton,List.length_cons];omega
theorem qp {st : SortSt} {out : List Value} {xs' : List V} {rk : List RK} (zQ : (arrOf st).map (·.2) = out.toArray) (hz : out.length < 100000) (Km : ks.length < 100000) (hf : failedOf st = none) (S : SK X pins σ H D kS e1 ks rk Hi s) (rv : Vals xs' out)
    {R:PySem.Fin->Shared->Prop} (q:∀ s' H1,Inv X pins σ H1 s'->Same H H1->H1 D = some (.lst xs')->R (.done (.ret .none)) s'):wpAny (model X.prog X.w) A (ksk_tail D false e1 (.ref kS) st) R E s:=by
 obtain ⟨e,ok⟩:=S.ok;obtain ⟨_,g1,g2,g3,g4,g5⟩:=S.fk;unfold ksk_tail;dsimp only;rw [zQ];refine wpAny_bind (listUpdate_at ok rfl ?_ (by rw [List.size_toArray,sizeLine_eq];omega) (Nat.zero_le _));have I2:Inv X pins σ Hi { s with heap:=s.heap.update kS (Obj.mapSeq fun _=>#[]) }:=S.I.turned (t':=s.toks) (it:=kS) (fun b o hb e=>by rw [Heap.get?_update_other _ _ (Ne.symm hb)];exact e) S.fk.1 g1 g3 g4 g5
 have gD:(s.heap.update kS (Obj.mapSeq fun _=>#[])).get? D = some (seqObj "list" #[] e1):=by rw [Heap.get?_update_other _ _ (Ne.symm S.ne)];exact S.oD
 refine wpAny_bind (wpAny_letGo (wpAny_bind (seqEpoch_at gD rfl ?_)));refine wpAny_bind (listUpdate_at gD rfl ?_ (Nat.zero_le _) (by show out.toArray.size <= _;rw [List.size_toArray,sizeLine_eq];omega));rw [hf];simp only [bne_self_eq_false,Bool.false_eq_true,if_false];have gE:=get?_update_seq gD fun _=>out.toArray
 have I3:Inv X pins σ (upd Hi D (.lst xs')) { s with heap:=(s.heap.update kS (Obj.mapSeq fun _=>#[])).update D (Obj.mapSeq fun _=>out.toArray) } :=
  I2.adopt (t':=s.toks) S.fD (fun b o hb e=>by rw [Heap.get?_update_other _ _ (Ne.symm hb)];exact e) ⟨by rw [rv.length,sizeLine_eq];omega,out,_,rv,gE⟩
 refine wpAny_pure (q _ _ I3 (fun b o e=>?_) aE);have h1:=S.sm b o e;rw [aD (fun z=>by rw [z,S.fD.1] at h1;cases h1)];exact h1
def mH (Hi:Hp) (x:Keyed):RK:=match x.1 with
 | .ref a=>match Hi a with
  | some (.tup [.str k1,.int k2])=>(k1,k2)
  | _=>(⟨#[]⟩,0)
 | _=>(⟨#[]⟩,0)
theorem mX {v:V} {u i:Value} {k:RK} (h:KeyT Hi v k) (r:RelV v u):mH Hi (u,i) = k:=by
 obtain ⟨a,rfl,ha⟩:=h;obtain rfl:u = Value.ref a:=r;unfold mH;dsimp only;rw [ha]
theorem wj {Hi:Hp}:∀ {vs:List V} {rk:List RK} {ks us:List Value},KeyTs Hi vs rk->Vals vs ks->ks.length = us.length->(ks.zip us).map (mH Hi) = rk
 | [],[],ks,us,_,r,_=>by cases r;rfl
 | v :: vs,k :: rk,ks,us,h,r,hl=>by
  cases r with
  | @cons _ u _ ks r1 r2 =>
   cases us with
   | nil=>simp at hl
   | cons i us =>
    rw [List.zip_cons_cons,List.map_cons,mX h.1 r1,wj h.2 r2 (by simpa using hl)]
 | [],_ :: _,_,_,h,_,_=>h.elim
 | _ :: _,[],_,_,h,_,_=>h.elim
theorem rD {Hi:Hp}:∀ {vs:List V} {rk:List RK} {ks us:List Value} {x:Keyed},KeyTs Hi vs rk->Vals vs ks->x ∈ ks.zip us->∃ v k,KeyT Hi v k/\RelV v x.1
 | [],[],ks,us,x,_,r,hx=>by cases r;simp at hx
 | v :: vs,k :: rk,ks,us,x,h,r,hx=>by
  cases r with
  | @cons _ u _ ks r1 r2 =>
   cases us with
   | nil=>simp at hx
   | cons i us =>
    rw [List.zip_cons_cons] at hx
    rcases List.mem_cons.mp hx with rfl | hx
    ·exact ⟨v,k,h.1,r1⟩
    ·exact rD h.2 r2 hx
 | [],_ :: _,_,_,_,h,_,_=>h.elim
 | _ :: _,[],_,_,_,h,_,_=>h.elim
theorem l0 {α β:Type} {f:α->β}:∀ {l:List α},(l.map f).Nodup->∀ {x y:α},x ∈ l->y ∈ l->f x = f y->x = y
 | a :: l,nd,x,y,hx,hy,e=>by
  rw [List.map_cons,List.nodup_cons] at nd
  rcases List.mem_cons.mp hx with h1 | h1 <;> rcases List.mem_cons.mp hy with h2 | h2
  ·rw [h1,h2]
  ·exact absurd (by rw [<- h1,e];exact List.mem_map.mpr ⟨y,h2,rfl⟩) nd.1
  ·exact absurd (by rw [<- h2,<- e];exact List.mem_map.mpr ⟨x,h1,rfl⟩) nd.1
  ·exact l0 nd.2 h1 h2 e
theorem iz {α β:Type} {f:α->β}:∀ {l:List α},(l.map f).Nodup->l.Nodup
 | [],_=>List.nodup_nil
 | a :: l,nd=>by
  rw [List.map_cons,List.nodup_cons] at nd;exact List.nodup_cons.mpr ⟨fun h=>nd.1 (List.mem_map.mpr ⟨a,h,rfl⟩),iz nd.2⟩
theorem perm_lift {f:α->β} {l m:List β} (h:l.Perm m):∀ L:List α,m = L.map f->∃ L':List α,L'.Perm L/\l = L'.map f:=by
 induction h with
 | nil=>exact fun L e=>⟨[],by cases L with | nil=>exact .nil | cons _ _=>simp at e,rfl⟩
 | cons x p ih =>
  intro L e
  cases L with
  | nil=>simp at e
  | cons a L =>
   rw [List.map_cons,List.cons.injEq] at e;obtain ⟨L',h1,h2⟩:=ih L e.2;exact ⟨a :: L',h1.cons a,by rw [List.map_cons,<- h2,e.1]⟩
 | swap x y l =>
  intro L e
  match L,e with
  | a :: b :: L,e =>
   simp only [List.map_cons,List.cons.injEq] at e;exact ⟨b :: a :: L,List.Perm.swap a b L,by simp only [List.map_cons,List.cons.injEq];exact ⟨e.2.1,e.1,e.2.2⟩⟩
 | trans p q ih1 ih2 =>
  intro L e;obtain ⟨L1,h1,h2⟩:=ih2 L e;obtain ⟨L2,h3,h4⟩:=ih1 L1 h2;exact ⟨L2,h3.trans h1,h4⟩
theorem Kv {Hi:Hp} {kf:V->RK}:∀ {xs aF:List V} {ks us:List Value},Vals xs us->KeyTs Hi aF (xs.map kf)->Vals aF ks->∃ L:List (Keyed × V),L.map (·.1) = ks.zip us/\L.map (·.2) = xs/\∀ t ∈ L,RelV t.2 t.1.2/\mH Hi t.1 = kf t.2
 | [],[],ks,us,r,_,r2=>by
  cases r;cases r2
  exact ⟨[],rfl,rfl,fun t h=>absurd h (by simp)⟩
 | x :: xs,v :: aF,ks,us,r,h,r2=>by
  cases r with
  | @cons _ u _ us a1 a2 =>
   cases r2 with
   | @cons _ k _ ks b1 b2 =>
    obtain ⟨L,h1,h2,h3⟩:=Kv a2 h.2 b2;refine ⟨((k,u),x) :: L,by rw [List.map_cons,h1,List.zip_cons_cons],by rw [List.map_cons,h2],fun t ht=>?_⟩
    rcases List.mem_cons.mp ht with rfl | ht
    ·exact ⟨a1,mX h.1 b1⟩
    ·exact h3 t ht
 | [],_ :: _,_,_,_,h,_=>h.elim
 | _ :: _,[],_,_,_,h,_=>h.elim
theorem tI {α:Type} {f:α->V} {g:α->Value}:∀ {l:List α},(∀ t ∈ l,RelV (f t) (g t))->Vals (l.map f) (l.map g)
 | [],_=>.nil
 | a :: l,h=>.cons (h a List.mem_cons_self) (tI fun t ht=>h t (List.mem_cons_of_mem _ ht))
def j8 (kf:V->RK) (xs:List V):Prop:=xs.Pairwise fun a b=>eT (kf a) (kf b) = true
theorem JM {aF : List V} {rk : List RK} (I : Inv X pins σ Hi s) (kt : KeyTs Hi aF rk) (rv : Vals aF ks) (hl : ks.length = us.length) (nd : rk.Nodup) :
    tF X.prog X.w A s (tuples' true) (fun x=>x ∈ ks.zip us) (fun x y=>eT (mH Hi x) (mH Hi y)) where
 ask:=fun x y hx hy C q=>by
  obtain ⟨v,k,h1,r1⟩:=rD kt rv hx;obtain ⟨v',k',h2,r2⟩:=rD kt rv hy;refine JZ I h1 h2 r1 r2 ?_;rw [show mH Hi x = k from mX (i:=x.2) h1 r1,show mH Hi y = k' from mX (i:=y.2) h2 r2] at q;exact q
 tot:=fun x y hx hy ne e=>Cw (fun z=>ne (l0 (by rw [wj kt rv hl];exact nd) hx hy z)) e
 asy:=fun x y _ _ e=>uW e
 trans:=fun x y z _ _ _ e1 e2=>oq e1 e2
theorem Ba (S : SK X pins σ H D kS e1 ks (xs.map kf) Hi s) (r : Vals xs us) (hl : ks.length = us.length) (hz : us.length < 100000) (nd : (xs.map kf).Nodup)
    {R:PySem.Fin->Shared->Prop} (q:∀ xs' s' H1,xs'.Perm xs->j8 kf xs'->Inv X pins σ H1 s'->Same H H1->H1 D = some (.lst xs')->R (.done (.ret .none)) s'):wpAny (model X.prog X.w) A (ksk_end D false us.toArray e1 (.ref kS) ks.toArray) R E s:=by
 have hx:=r.length;unfold ksk_end;dsimp only;simp only [Bool.false_eq_true,if_false]
 by_cases h2:us.toArray.size < 2
 ·rw [if_pos h2,if_pos h2];refine wpAny_bind (wpAny_pure (wpAny_bind (wpAny_pure ?_)));dsimp only;rw [List.size_toArray] at h2;refine qp (out:=us) (xs':=xs) ?_ hz (by omega) rfl S r fun s' H1 a b c=>q xs s' H1 (List.Perm.refl _) ?_ a b c
  ·show ((ks.toArray).zip us.toArray).map (·.2) = us.toArray;apply Array.toList_inj.mp;simp [List.map_snd_zip,hl]
  ·unfold j8
   match xs,hx with
   | [],_=>exact List.Pairwise.nil
   | [a],_=>exact List.pairwise_singleton _ _
   | a :: b :: l,hx=>rw [List.length_cons,List.length_cons] at hx;omega
 ·rw [if_neg h2,if_neg h2];rw [List.size_toArray] at h2;obtain ⟨aF,rv,kt⟩:=S.kt;have we:(xs.map kf).length = us.length:=by rw [List.length_map,hx]
  refine wpAny_bind (Dr S.I kt rv (by omega) ?_);have ez:((ks.toArray).zip us.toArray).toList = ks.zip us:=by simp
  have Kt:((ks.toArray).zip us.toArray).size = us.length:=by simp [hl]
  have C:=JM (A:=A) (us:=us) S.I kt rv hl nd;have G:Gd (fun x=>x ∈ ks.zip us) ((ks.toArray).zip us.toArray):=⟨fun x hx=>by rw [ez] at hx;exact hx,by rw [ez];exact iz (f:=mH Hi) (by rw [wj kt rv hl];exact nd)⟩
  refine wpAny_bind (wpAny_mono (show wpAny (model X.prog X.w) A (sortRuns'.run (SortSt.mk' (tuples' true) ((ks.toArray).zip us.toArray) #[] 7 none)) _ E s from DL (E:=E) C G (by omega) (g:=7) (Q:=fun _ st=>∃ arr p g,st = Ms (tuples' true) arr p g/\arr.Perm ((ks.toArray).zip us.toArray)/\Ups (fun x y=>eT (mH Hi x) (mH Hi y)) arr 0 us.length) fun arr p g a1 a2=>⟨arr,p,g,rfl,a1,by rw [Kt] at a2;exact a2⟩) ?_ fun _ _ z=>z)
  rintro ⟨⟨⟩,st⟩ s' ⟨rfl,arr,p,g,e,pm,up⟩;dsimp only at e;subst e;dsimp only;have YU:=Array.perm_iff_toList_perm.mp pm;rw [ez] at YU;obtain ⟨L,l1,l2,l3⟩:=Kv r kt rv;obtain ⟨L',p1,p2⟩:=perm_lift YU L l1.symm;have Jh:∀ t ∈ L',RelV t.2 t.1.2/\mH Hi t.1 = kf t.2:=fun t ht=>l3 t (p1.mem_iff.mp ht)
  have zQ:(arrOf (Ms (tuples' true) arr p g)).map (·.2) = (L'.map fun t=>t.1.2).toArray:=by
   apply Array.toList_inj.mp;rw [Array.toList_map];show arr.toList.map (·.2) = _;rw [p2,List.map_map]
   rfl
  have len:L'.length = us.length:=by
   have:=congrArg List.length p2;rw [List.length_map,Array.length_toList,pm.size_eq,Kt] at this;exact this.symm
  refine qp (out:=L'.map fun t=>t.1.2) (xs':=L'.map (·.2)) zQ (by rw [List.length_map];omega) (by omega) rfl S (tI fun t ht=>(Jh t ht).1) fun s' H1 a b c=>q _ s' H1 ?_ ?_ a b c
  ·rw [<- l2];exact p1.map _
  ·unfold j8;rw [List.pairwise_map];have sz:0 + us.length <= arr.size:=by rw [pm.size_eq,Kt];omega
   have:=up.srt sz;rw [List.drop_zero,List.take_of_length_le (by rw [Array.length_toList,pm.size_eq,Kt];exact Nat.le_refl _),p2] at this;have:=List.pairwise_map.mp this;exact this.imp_of_mem fun {a b} ha hb h=>by
    dsimp only at h;rw [(Jh a ha).2,(Jh b hb).2] at h;exact h
end
section
variable {pins:List (Addr × Obj)} {σ:St} {s:Shared} {E:Value->Shared->Prop}
variable {fv:Value} {D kS:Addr} {e1:Nat}
theorem yZ (hA : A.frames = X.A.frames) (S : SK X pins σ H D kS e1 [] [] H s) (r : Vals xs us) (hk : ∀ y ∈ xs, vY X A fv H kf y) (hz : us.length < 100000) (nd : (xs.map kf).Nodup)
    {R:PySem.Fin->Shared->Prop} (q:∀ xs' s' H1,xs'.Perm xs->j8 kf xs'->Inv X pins σ H1 s'->Same H H1->H1 D = some (.lst xs')->R (.done (.ret .none)) s'):wpAny (model X.prog X.w) A (ksk_rest D fv false us.toArray e1 (.ref kS)) R E s:=by
 unfold ksk_rest;refine wpAny_bind (wpAny_rule ?_);rw [List.forIn_toArray];refine wpAny_bind (wpAny_mono (qG (E:=E) hA (fun u s R h=>?_) r hk (by simpa using hz) S) (fun _ s' hq=>?_) fun _ _ z=>z)
 ·refine wpAny_bind (wpAny_attempt (wpAny_mono h (fun v s1 h1=>?_) fun _ _ z=>z.elim))
  exact wpAny_bind (wpAny_mono h1 (fun _ s2 h2=>wpAny_pure ⟨rfl,h2⟩) fun _ _ z=>z)
 ·obtain ⟨ks,Hj,S',hl⟩:=hq;obtain ⟨e,ok⟩:=S'.ok;refine wpAny_bind (listItems_at ok rfl ?_);refine Ba S' r (by simpa using hl) hz nd fun xs' s' H1 a b c d f=>q xs' s' H1 a b c d f
theorem yY {p : Addr} {kw : List (Str × Value)} (I : Inv X pins σ H s) (r : Vals xs us) (hp : s.heap.IsList p us.toArray) (hk : ∀ y ∈ xs, vY X X.A.in1.in1 fv H kf y) (hz : xs.length < 100000) (nd : (xs.map kf).Nodup)
    (wg:argsOk "sorted" { pos:=[.ref p],kw:=kw }) (xD:∀ x:Addr,argsOk "list.sort" { pos:=[.ref x],kw:=kw }) (ht:∀ x:Addr,Builtin.«list.sort» { pos:=[.ref x],kw:=kw } = ksk_tree x fv false) {Q:VK}
    (q:∀ xs' l H1,xs'.Perm xs->j8 kf xs'->H l = none->Same H H1->H1 l = some (.lst xs')->Q (.ref l) H1) :
    wpAny (model X.prog X.w) X.A (call (.builtin "sorted") [.ref p] kw) (EP X pins σ Q) E s:=by
 have hz:us.length < 100000:=by rw [<- r.length];exact hz
 have hl:=sizeLine_eq;refine call_function_entry_kw kind_sorted plain_sorted entry_sorted wg ?_;show wpAny _ _ (checkCount "sorted" 1 1 1 >>= _) _ _ _;refine wpAny_bind (wpAny_pure ?_);refine wpAny_bind (collect_list hp ?_ (by omega));refine wpAny_bind (wpAny_newList ?_ (by omega));generalize N3:(s.heap.push (seqObj "list" #[] 0)).update s.heap.objs.size (Obj.mapSeq fun x=>x ++ us.toArray) = h1
 have k1:∀ b u,s.heap.get? b = some u->h1.get? b = some u:=fun b u e=>by
  rw [<- N3,Heap.get?_update_other _ _ (Nat.ne_of_gt (Heap.lt_size e))];exact Heap.get?_push_of_some _ e
 have z1:h1.objs.size = s.heap.objs.size + 1:=by rw [<- N3,Heap.size_update,size_push']
 dsimp only;obtain ⟨D,hD⟩:∃ D,h1.objs.size = D:=⟨_,rfl⟩
 rw [hD];have gD:(h1.push ⟨.type "list",none,.seq us.toArray 0,#[]⟩).get? D = some (seqObj "list" us.toArray 0):=by
  rw [<- hD];exact Heap.get?_push_size _ rfl
 refine wpAny_bind (wpAny_holding (wpAny_call_entry_kw slot_list_sort ⟨_,gD,rfl⟩ entry_list_sort ?_ (xD D)));rw [ht];unfold ksk_tree;refine wpAny_bind (listItems_at gD rfl ?_);refine wpAny_bind (listUpdate_at gD rfl ?_ (by rw [List.size_toArray];omega) (Nat.zero_le _));have UY:=get?_update_seq gD fun _=>#[]
 refine wpAny_bind (seqEpoch_at UY rfl ?_);generalize (if ((#[]:Array Value).size == us.toArray.size) = true then 0 else 0 + 1) = e1 at UY
 refine wpAny_bind (wpAny_newTuple ?_ (by simp;omega));refine wpAny_bind (wpAny_newList ?_ (Nat.zero_le _));refine wpAny_holding ?_;have N7:s.heap.objs.size < D:=by rw [<- hD,z1];exact Nat.lt_succ_self _
 have gD3:∀ o1 o2,(((((h1.push ⟨.type "list",none,.seq us.toArray 0,#[]⟩).update D (Obj.mapSeq fun _=>#[])).push o1).push o2).get? D) = some (seqObj "list" #[] e1):=fun o1 o2=>Heap.get?_push_of_some _ (Heap.get?_push_of_some _ UY)
 have k5:∀ o1 o2 b u,s.heap.get? b = some u->(((((h1.push ⟨.type "list",none,.seq us.toArray 0,#[]⟩).update D (Obj.mapSeq fun _=>#[])).push o1).push o2).get? b) = some u:=fun o1 o2 b u e=>by
  refine Heap.get?_push_of_some _ (Heap.get?_push_of_some _ ?_);rw [Heap.get?_update_other _ _ (Nat.ne_of_gt (Nat.lt_trans (Heap.lt_size e) N7))];exact Heap.get?_push_of_some _ (k1 b u e)
 refine yZ (A:=X.A.in1.in1) (H:=H) rfl ⟨I.kept (t':=s.toks) (k5 _ _),fun _ _ e=>e,I.fpOk ?_ (I.hok.fresh ?_),I.fpOk (Nat.le_of_lt N7) (I.hok.fresh (Nat.le_of_lt N7)),⟨0,Heap.get?_push_size _ rfl⟩,gD3 _ _,?_,⟨[],.nil,trivial⟩⟩ r hk hz nd fun xs' s' H1 a b c d e=>⟨.none,rfl,?_⟩
 ·rw [size_push',Heap.size_update,size_push'];omega
 ·rw [size_push',Heap.size_update,size_push'];omega
 ·rw [size_push',Heap.size_update,size_push',hD];exact Nat.ne_of_lt (Nat.lt_succ_of_lt (Nat.lt_succ_self D))
 ·exact wpAny_pure ⟨.ref D,rfl,.ref D,H1,c,rfl,q xs' D H1 a b (I.hok.fresh (Nat.le_of_lt N7)) d e⟩
end
section
variable {a:Expr} {x:Str} {p pos:Pos} {kpos:Pos} {ke:Expr} {t:TA} {tk:TE}
def nR (X:Cx):List V->V->Hp->VK->Prop:=fun vs f H Q=>∃ pl xs kf fa,vs = [.ref pl]/\f = .ref fa/\SqL X.K H pl xs/\xs.length < 100000/\(xs.map kf).Nodup/\(∀ y ∈ xs,vY X X.A.in1.in1 (.ref fa) H kf y) /\
 ∀ xs' l H1,xs'.Perm xs->j8 kf xs'->H l = none->Same H H1->H1 l = some (.lst xs')->Q (.ref l) H1
def wu (X:Cx) (t:TA) (tk:TE):TE:=fun σ H Q=>t σ H fun vs H1=>tk σ H1 fun f H2=>nR X vs f H2 Q
theorem BZ (hm:X.mg "sorted" = none) (ha:PA X [a] t) (hk:PE X ke tk) (hg:Gl X "sorted":=by rfl) (h1:isStar a = false:=by rfl):PE X (.Call (.Name "sorted" p) [a] [⟨some "key",ke,kpos⟩] pos) (wu X t tk):=by
 intro pins s σ H Q I h;refine wpAny_Call_Name_kw (lI I hg hm boot_sorted ?_ (by decide) (by decide));refine callWith_builtin_kwB (by rw [aN h1];rfl) rfl ?_;rw [aN h1];have hs:wpAny (model X.prog X.w) X.A (spliced (backTo pos ((false,eval a X.env) :: starEach [] X.env))) (AP X pins σ fun vs H1=>tk σ H1 fun f H2=>nR X vs f H2 Q) X.xe s:=by
  rw [<- aN h1];exact ha pos pins s σ H _ I h
 refine evalArgs_kwB rfl (cz hs fun us s1 ⟨vs,H1,I1,r1,q1⟩=>?_);refine cz ((ED (nm:=some "key") (kpos:=kpos) hk IA) pos pins s1 σ H1 (fun zs H2=>match zs with | [f]=>nR X vs f H2 Q | _=>False) I1 q1) fun ws s2 ⟨zs,H2,I2,rz,q2⟩=>?_
 match zs,rz,q2 with
 | [f],rz,q2 =>
  obtain ⟨u,rfl,ru⟩:=vals1 rz;obtain ⟨pl,xs,kf,fa,rfl,rfl,hl,hz,nd,hk,q⟩:=q2;obtain ⟨u1,rfl,ru1⟩:=vals1 r1;obtain rfl:u = Value.ref fa:=ru;obtain rfl:u1 = Value.ref pl:=ru1;obtain ⟨its,r',pp,_⟩:=I2.list hl;exact yY I2 r' pp.isList hk hz nd (ksk_s1 _ _) (fun x=>ksk_l1 _ _) (fun x=>ksk_t1 _ _) q
theorem yN (hm:X.mg "sorted" = none) (ha:BA X [a] t) (hk:BE X ke tk) (hg:Gl X "sorted":=by rfl) (h1:isStar a = false:=by rfl):BE X (.Call (.Name "sorted" p) [a] [⟨some "key",ke,kpos⟩] pos) (wu X t tk):=⟨BZ hm ha.h hk.h hg h1⟩
theorem Ff {k : Nat} {f : Addr} {fd : FuncData} {ps : List Str} {sp : Sp} {nm : Str} {sf : Stmt} (N : Fn X.K X.mg nm sf ps f fd) (G : FnOk X.prog X.w X.K X.mg X.base cy k f fd ps sp) (hr : Room k A) {y : V}
    (hk:∀ H1,Same H H1->∀ R:VK,(∀ a H2,Same H1 H2->H2 a = some (.tup [.str (kf y).1,.int (kf y).2])->R (.ref a) H2)->sp [y] H1 R E0):vY X A (.ref f) H kf y:=by
 intro s Hi u e0 kin sm ru;have xA:=hk Hi sm (fun v H2=>∃ a,v = .ref a/\Same Hi H2/\H2 a = some (.tup [.str (kf y).1,.int (kf y).2])) fun a H2 s2 h2=>⟨a,rfl,s2,h2⟩
 have rv:Vals [y] [u]:=.cons ru .nil;have hl:([u] ++ []).length = ps.length:=by
  have:=G.len _ _ _ _ xA;simpa using this
 refine wpAny_call (codeAny_mono (G.run A X.stack s Hi ⟨[u],[]⟩ [u] [y] _ E0 hr e0 (N.bd s [u] kin hl) rv xA) fun r s' hq=>?_)
 cases r with
 | error e=>exact hq.elim
 | ok fl =>
  cases fl with
  | ret v=>exact hq
  | next=>exact False.elim hq
  | brk=>exact False.elim hq
  | cont=>exact False.elim hq
end
end L2
namespace L2
open PySem PySem.Spec PySem.W PyProof.Rows
variable {H:Hp} {P:Program} {w:World} {K:W.Frag} {mg:Str->Option Value} {qual x:Str} {N:List Str} {f:Addr} {k:Nat}
def SameN (H H':Hp):Prop:=∀ b o,H b = some o->(∀ ps,o ≠ .tbl ps)->H' b = some o
theorem SameN.of {H':Hp} (s:Same H H'):SameN H H':=fun b o e _=>s b o e
theorem SameN.refl:SameN H H:=fun _ _ e _=>e
theorem SameN.trans {H1 H2:Hp} (a:SameN H H1) (b:SameN H1 H2):SameN H H2:=fun c o e n=>b c o (a c o e n) n
def vW (qual:Str) (params:Arguments) (body:Expr) (scope:Scope) (f c':Addr) (h:Heap):Prop:=∃ pm i0,h.get? f = some (kla_obj (Str.ofString "<lambda>") qual params body scope [] pm c' i0)
def gp (qual:Str) (c':Addr) (h:Heap):Prop:=h.CodeRec (.ref c') qual
section
variable {base:Heap}
theorem Fc {params : Arguments} {body : Expr} {scope : Scope} {ps : List Str} {c' : Addr} {A : Around} {outer : List Env} {s : Shared} {us : List Value} {vs : List V} {Q : VK} (S : aq N ps scope) (hr : Room (k + 1) A) (e0 : qb P w K mg base A outer s H)
    (hf:H f = some (.ext (vW qual params body scope f c'))) (hc:H c' = some (.ext (gp qual c'))) (hb:∀ pm i0,bindArgs (kla_fn (Str.ofString "<lambda>") qual params body scope [] pm (.ref c') i0) ⟨us,[]⟩ = pure (ps.zip us)) (hl:vs.length = ps.length) (r:Vals vs us)
    (fZ:Room k (A.deeper (envOfC qual scope s.heap.objs.size f (.ref c')))->∃ t,BE (hX cy P w K mg base N qual scope f (.ref c') A outer s H E0).nox body t/\t (start N vs) H Q) :
    wpAny (model P w) A (call (.ref f) us) (CE outer P w H s Q) (fun _ _=>False) s:=by
 obtain ⟨pm,i0,gf⟩:=(e0.hok f _ hf).1;have Mg:s.heap.CodeRec (.ref c') qual:=(e0.hok c' _ hc).1;have lim:s.heap.NoLimit:=e0.mod.nolimit.keeps fun b o e=>(e0.bs b o e).1
 have vm:∀ y ∈ ps.zip us,scope.names.lookup y.1 = some .local \/ (scope.names.lookup y.1 = some .cell/\((cellsFrom (s.heap.objs.size + 1) scope.names []).lookup y.1).isSome = true):=fun ⟨n,v⟩ hy=>by
  rcases S.par n (List.of_mem_zip hy).1 with q | q
  ·exact .inl q
  ·exact .inr ⟨q,W.cellsFrom_some _ _ _ (.inl q)⟩
 refine wpAny_call (kla_callFunE hr.depth gf rfl S.co S.gen rfl Mg ?_);rw [hb];refine wpAny_pure (wpAny_newFunctionEnv_cells S.kind vm fun env he s1 x=>?_);subst he;refine ⟨lim.keeps x.toInCall.keep,kla_codeExpr ?_⟩;obtain ⟨t,ht,hq⟩:=fZ (hr.deeper _);have I:Inv (hX cy P w K mg base N qual scope f (.ref c') A outer s H E0) [] (start N vs) H s1:=lK S hr.hd e0 hl r x;exact wpAny_mono (ht.h [] s1 (start N vs) H Q (I.wish _) hq) (fun v s' ⟨v',H',J,rv,q⟩=>⟨v',H',J.unwish.os,J.unwish.bare,J.unwish.base,J.unwish.hok,rv,q⟩) fun _ _ z=>False.elim z
end
section
variable {base:Heap}
theorem Fun.okC {st : Stmt} {fd : FuncData} {ps : List Str} {sp : Sp} (F : Fun K x qual st f fd) (S : aq N ps (ae st)) (len : ∀ vs H Q E, sp vs H Q E -> vs.length = ps.length)
    (fZ:∀ (bq:Value) (A:Around) (outer:List Env) (s:Shared) (H:Hp) (vs:List V) (Q:VK) (E:XK),fd.code = bq->Room k (A.deeper (envOfC qual (ae st) s.heap.objs.size f bq))->sp vs H Q E ->
     ∃ t,Aw (hX cy P w K mg base N qual (ae st) f bq A outer s H E).nox (ao st) t/\t { nx:=fun _ H'=>Q .non H',rt:=Q } (start N vs) H):FnOk P w K mg base cy (k + 1) f fd ps sp:=by
 obtain ⟨oc,od,kV,doc,pm,an,bq,ct,DF,rfl,lk,j5⟩:=F.ex;refine GW lk j5 S len fun A outer s H vs Q E hr xA=>?_
 obtain ⟨t,h,q⟩:=fZ bq A outer s H vs Q E rfl hr xA;exact ⟨t,h.h.nox,q⟩
end
section
variable {X:Cx} {kf:V->RK}
theorem Cz {A : Around} {params : Arguments} {body : Expr} {scope : Scope} {p : Str} {c' : Addr} {y : V} (S : aq N [p] scope) (hr : Room (k + 1) A) (hf : H f = some (.ext (vW qual params body scope f c'))) (hc : H c' = some (.ext (gp qual c')))
    (hb:∀ u pm i0,bindArgs (kla_fn (Str.ofString "<lambda>") qual params body scope [] pm (.ref c') i0) ⟨[u],[]⟩ = pure [(p,u)])
    (fZ:∀ (s:Shared) (Hi:Hp),Same H Hi->Room k (A.deeper (envOfC qual scope s.heap.objs.size f (.ref c')))->∃ t,BE (hX cy X.prog X.w X.K X.mg X.base N qual scope f (.ref c') A X.stack s Hi E0).nox body t /\
     t (start N [y]) Hi fun v H2=>∃ a,v = .ref a/\Same Hi H2/\H2 a = some (.tup [.str (kf y).1,.int (kf y).2])):vY X A (.ref f) H kf y:=by
 intro s Hi u e0 kin sm ru;exact Fc (k:=k) S hr e0 (sm _ _ hf) (sm _ _ hc) (fun pm i0=>hb u pm i0) rfl (.cons ru .nil) fun Ap=>fZ s Hi sm Ap
end
def xI (ts:List Addr) (H:Hp):Prop:=∀ p ∈ ts,H p = some (.tbl #[])
theorem zH {P : Program} {w : World} {mb : Str -> Option Value} {CX : DJ} {fa a : Addr} {fd : FuncData} {sp : Sp} {s₁ : Shared} {vs : List Value} {ns : List Int} {ts : List Addr}
    (KX:K.In s₁.heap) (N0:s₁.heap.Ns mainGlobals mg) (hb:s₁.heap.Ns builtinsNs mb) (hbb:∀ x:Str,x ≠ "__name__"->mb x = bootBuiltins x) (Uu:s₁.heap.NoLimit) (hg:s₁.gens = #[])
    (ha:s₁.heap.get? a = some { cls:=.type "list",data:=.seq vs.toArray }) (hi:IntsAre vs ns) (hl:ns.length <= sizeLine) (hr:Room k callerA)
    (Fo:∀ p ∈ ts,s₁.heap.get? p = some (tabObj #[])) (hnk:∀ p ∈ ts,K.lookup p = none) (hct:∀ p ∈ ts,isCodeTable s₁.heap p) (hbm:∀ p ∈ ts,s₁.heap.BuiltinsAt mg p)
    (F:∀ base:Heap,K.In base->base.Ns mainGlobals mg->(∀ p ∈ ts,base.BuiltinsAt mg p)->FnOk P w K mg base CX k fa fd [x] sp) (Mi:∀ (s:Shared) (u:Value),BindsTo s fd ⟨[u],[]⟩ [(x,u)])
    (xA:∀ H:Hp,xI ts H->SqL K H a (ns.map V.int)->sp [.ref a] H (fun v _=>v = .bl true) fun _ _ _=>False)
    (UU:∀ H e s',CX [] H s₁ (fun _ _ _=>False) e s'->False) :
    codeAny (model P w) callerA (.call (.ref fa) ⟨[.ref a],[]⟩) (fun r s'=>r = .ok (.ret (.bool true))/\OldK s₁.heap s'.heap/\s'.os = s₁.os/\AllBare s'.gens) s₁:=by
 have rv:=qc hi;have SM:=hi.length;have ZV:a ∉ ts:=fun z=>by have:=Fo a z;rw [ha] at this;cases this
 have core : ∀ H : Hp, xI ts H -> (∀ b, b ∉ ts -> H b = none \/ (b = a /\ ∃ o xs, H b = some (.frz o (.lst xs)))) -> SqL K H a (ns.map V.int) -> HOk P w H s₁.heap -> (H a ≠ none -> K.lookup a = none) ->
     codeAny (model P w) callerA (.call (.ref fa) ⟨[.ref a],[]⟩) (fun r s'=>r = .ok (.ret (.bool true))/\OldK s₁.heap s'.heap/\s'.os = s₁.os/\AllBare s'.gens) s₁:=by
  intro H hT hO hS hok hK;have sY:∀ {b:Addr} {o:Obj},s₁.heap.get? b = some o->H b = none->(pZ s₁.heap H).get? b = some o:=fun e n=>CQ e n
  have no:∀ {b:Addr} {o:Obj},s₁.heap.get? b = some o->b ∉ ts->b ≠ a->H b = none:=fun {b o} e n1 n2=>by
   rcases hO b n1 with z | ⟨z,_⟩
   ·exact z
   ·exact absurd z n2
  have NP:∀ {b:Addr} {m:Str->Option Value},s₁.heap.Ns b m->(pZ s₁.heap H).Ns b m:=fun {b m} ⟨o,es,ep,e,d,r⟩=>⟨o,es,ep,sY e (no e (fun z=>by rw [Fo b z] at e;cases e;cases d) (fun z=>by rw [z,ha] at e;cases e;cases d)),d,r⟩
  have Zt:K.In (pZ s₁.heap H):=fun b o e=>sY (KX b o e) (by
   by_cases z:b ∈ ts
   ·rw [hnk b z] at e;cases e
   ·rcases hO b z with q | ⟨q,o',xs,q'⟩
    ·exact q
    ·rw [q] at e q';rw [hK (by rw [q'];simp)] at e;cases e)
  have hBb:∀ p ∈ ts,(pZ s₁.heap H).BuiltinsAt mg p:=fun p hp=>by
   obtain ⟨bm,o,e1,e2,e3,e4,e5,e6,e7,e8⟩:=hbm p hp;refine ⟨bm,o,e1,e2,e3,e4,sY e5 (no e5 (fun z=>?_) fun z=>?_),e6,e7,e8⟩
   ·rw [Fo bm z] at e5;cases e5;cases e6
   ·rw [z,ha] at e5
    cases e5
    have e6':Value.type "list" = Value.type "module":=e6
    injection e6' with h
    exact absurd h (by decide)
  have hM:Mod K mg (pZ s₁.heap H):=⟨Zt,NP N0,⟨mb,NP hb,hbb⟩,let ⟨mc,h1,h2⟩:=Uu;⟨mc,NP h1,h2⟩⟩
  have e0:qb P w K mg (pZ s₁.heap H) callerA [] s₁ H:=⟨rfl,hM,fun b o e=>EZ e,Nat.le_of_eq (zR _ _),trivial,fun b hb=>absurd (show b ∈ ([]:List Addr) from hb) (by simp),hok,.of_eq hg⟩
  refine codeAny_mono ((F _ Zt (NP N0) hBb).run callerA [] s₁ H ⟨[.ref a],[]⟩ [.ref a] [.ref a] _ _ hr e0 (Mi s₁ (.ref a)) (.cons rfl .nil) (xA H hT hS)) fun r s' h=>?_
  cases r with
  | error e=>exact (UU H e s' h).elim
  | ok fl =>
   cases fl with
   | next=>exact False.elim h
   | brk=>exact False.elim h
   | cont=>exact False.elim h
   | ret u =>
    obtain ⟨v,H',os,bare,un,LV,r',q⟩:=h;have q':v = .bl true:=q;subst q';obtain rfl:u = Value.bool true:=r';refine ⟨rfl,⟨fun b o e=>?_,fun b o e=>un.there b o e (by simp)⟩,os,bare⟩
    by_cases z:b ∈ ts
    ·obtain ⟨more,e2⟩:=un.tbls b _ (hT b z);have e3:s'.heap.get? b = some (tabObj (#[] ++ more)):=LV b _ e2;rw [Fo b z] at e
     cases e
     exact .inr (.inl ⟨hct b z,rfl,#[],more,rfl,e3⟩)
    ·refine .inl ?_
     rcases hO b z with q | ⟨_,ob,xs,q⟩
     ·exact un.keep b o e q (by intro z;exact absurd (show b ∈ ([]:List Addr) from z) (by simp)) (by simp)
     ·have z2:=un.frzs b ob _ q;obtain ⟨e1,_⟩:=hok b _ q;obtain ⟨e2,_⟩:=LV b _ z2;rw [e] at e1;cases e1;exact e2
 cases hk:K.lookup a with
 | some o =>
  have e:=KX a o hk;rw [ha] at e
  cases e
  refine core (fun b=>if b ∈ ts then some (.tbl #[]) else none) (fun p hp=>if_pos hp) (fun b hb=>.inl (if_neg hb)) (.inr ⟨_,vs.toArray,_,hk,rfl,rfl,rfl,by rw [List.size_toArray,SM];exact hl,by simpa using rv⟩) (fun b u z=>?_) fun z=>absurd (if_neg ZV) z
  by_cases hb:b ∈ ts
  ·have z':=(if_pos hb).symm.trans z
   cases z'
   exact Fo b hb
  ·have z':=(if_neg hb).symm.trans z
   cases z'
 | none =>
  refine core (fun b=>if b ∈ ts then some (.tbl #[]) else if b = a then some (.frz { cls:=.type "list",data:=.seq vs.toArray } (.lst (ns.map V.int))) else none) (fun p hp=>if_pos hp) (fun b hb=>?_) (.inl (.inr ⟨{ cls:=.type "list",data:=.seq vs.toArray },(if_neg ZV).trans (if_pos rfl)⟩)) (fun b u z=>?_) fun _=>hk
  ·by_cases JF:b = a
   ·exact .inr ⟨JF,_,_,(if_neg hb).trans (if_pos JF)⟩
   ·exact .inl ((if_neg hb).trans (if_neg JF))
  ·by_cases hb:b ∈ ts
   ·have z':=(if_pos hb).symm.trans z
    cases z'
    exact Fo b hb
   ·by_cases JF:b = a
    ·have z':=((if_neg hb).trans (if_pos JF)).symm.trans z
     cases z'
     subst JF;exact ⟨ha,by rw [List.length_map];exact hl,vs,_,rv,ha⟩
    ·have z':=((if_neg hb).trans (if_neg JF)).symm.trans z
     cases z'
theorem walk_ofT {l : W.OpenLaw} {n : Nat} {q : Program} {loose : List Str} {XP : (Str -> Option Value) -> Heap -> Prop} {YP : World -> Heap -> Prop} {d : DefRec} {K : Params -> W.Frag} {CX : World -> DJ} {sp : World -> Sp} {ts : List Addr}
    (hn:l.most = some n) (JA:n <= sizeLine) (Me:d.params.defaults = []) (hr:Room k callerA)
    (hY:∀ (w:World) (h:Heap),YP w h->(K w.params).In h/\∀ p ∈ ts,h.get? p = some (tabObj #[]))
    (F:∀ (w:World) (mg:Str->Option Value) (fa:Addr) (h:Heap),(K w.params).In h->h.Ns mainGlobals mg->mg d.name = some (.ref fa) ->
     (∀ p ∈ ts,(K w.params).lookup p = none/\∃ c,codeHdIn (K w.params) c p = true) /\
     ∃ fd:FuncData,(∀ (s:Shared) (u:Value),BindsTo s fd ⟨[u],[]⟩ [(x,u)]) /\
      ∀ base:Heap,(K w.params).In base->base.Ns mainGlobals mg->(∀ p ∈ ts,base.BuiltinsAt mg p)->FnOk l.prog w (K w.params) mg base (CX w) k fa fd [x] (sp w))
    (xA:∀ (w:World) (H:Hp) (a:Addr) (ns:List Int),ns.length <= n->xI ts H->SqL (K w.params) H a (ns.map V.int)->sp w [.ref a] H (fun v _=>v = .bl true) fun _ _ _=>False)
    (UU:∀ (w:World) (H:Hp) (s:Shared) (e:Value) (s':Shared),CX w [] H s (fun _ _ _=>False) e s'->False) :
    W.WalkO q loose XP YP l.row.toRowW d [] (fun f vs=>PySem.call f vs):=by
 refine Att.attach_call hn Me fun w s₀ s₁ mg mb fa o pm cd doc a vs ns G Y ho hd j5 LX Jy hints hlen hg=>?_
 obtain ⟨KX,Fo⟩:=hY w _ Y;obtain ⟨hp,fd,hb,hF⟩:=F w mg fa _ KX G.T.g LX;refine zH KX G.T.g G.T.b G.T.builtins G.T.nolimit hg Jy hints (Nat.le_trans hlen JA) hr Fo (fun p h=>(hp p h).1) (fun p h=>?_) (fun p h=>?_) hF hb (fun H hO hS=>xA w H a ns hlen hO hS) fun H e s'=>UU w H s₁ e s'
 ·obtain ⟨c,hc⟩:=(hp p h).2;obtain ⟨o,vs,_,_,_,_,_,_,_,e1,e2,e3,e4,_⟩:=codeHd_of_K KX hc;exact ⟨c,o,vs,e1,e2,e3,e4⟩
 ·obtain ⟨bm,ob,e1,e2,e3,e4,e5,e6⟩:=G.T.bmain;refine ⟨bm,ob,e1,e2,fun z=>?_,fun z=>?_,e3,e4,e5,e6⟩
  ·obtain ⟨o,es,ep,g1,g2,_⟩:=G.T.g;rw [z,g1] at e3
   cases e3
   rw [e6] at g2
   cases g2
  ·rw [z,Fo p h] at e3
   cases e3
   cases e4
end L2
namespace L2
open PySem PySem.Spec PyProof.Rows
local macro_rules | `(term| type_of% $n:ident) => return Lean.mkIdent (Lean.mkPrivateNameCore `PySem.Builtin.Dict_items.Iterators (`PySem.Builtin ++ n.getId))
local macro_rules | `(tactic| delta $n:ident) => if Lean.isPrivateName n.getId then Lean.Macro.throwUnsupported else `(tactic| delta $(Lean.mkIdent (Lean.mkPrivateNameCore `PySem.Builtin.Dict_items.Iterators (`PySem.Builtin ++ n.getId))):ident)
section
variable {prog:Program} {w:World} {A:Around} {E:Value->Shared->Prop} {s:Shared} {it d:Addr} {i ep:Nat} {o:Obj} {es:Array DictEntry}
theorem ou {Q:Nat->Shared->Prop} (st:s.TypeIs (.ref it) "dict_keyiterator") (q:Q 0 s):wpAny (model prog w) A ((type_of% base) (.ref it)) Q E s:=by
 delta base
 exact wpAny_bind (wpAny_typeNameOfWhole_keyiter st (wpAny_pure q))
theorem qH {id:String} {Q:Option (Array DictEntry × Int)->Shared->Prop} (st:s.heap.IsKeyIter it d i es.size ep) (hd:s.heap.get? d = some o) (Ft:o.data = .dict es ep) (q:Q (some (es,(i:Int))) s):wpAny (model prog w) A ((type_of% place) id (.ref it) true) Q E s:=by
 have ty:=st.typeIs (s:=s);obtain ⟨oi,e1,e2,e3⟩:=st
 delta place
 refine wpAny_bind (ou ty ?_);refine wpAny_bind (wpAny_fieldsOf e1 e3 ?_);show wpAny _ _ (if (Value.ref d == Value.none) = true then _ else _) _ _ _
 rw [if_neg (by simp)];refine wpAny_bind (wpAny_pure ?_);refine wpAny_bind (wpAny_dictEntries hd Ft ?_);dsimp only;rw [if_neg (by simp)];refine wpAny_bind (wpAny_pure ?_);refine wpAny_bind (wpAny_dictEpoch hd Ft ?_);rw [if_neg (by simp)];exact wpAny_pure q
theorem CB {e : DictEntry} {Q : Option Value -> Shared -> Prop} (st : s.heap.IsKeyIter it d i es.size ep) (hd : s.heap.get? d = some o) (Ft : o.data = .dict es ep) (he : es[i]? = some e)
    (q:∀ h',h'.IsKeyIter it d (i + 1) es.size ep->Heap.SameBut it s.heap h'->Q (some e.key) { s with heap:=h' }):wpAny (model prog w) A (pyNext (.ref it)) Q E s:=by
 have ty:=st.typeIs (s:=s);unfold pyNext;refine wpAny_bind (wpAny_attempt (wpAny_callSpecial?_slot ty F.slot_dict_keyiterator_next (wpAny_call_entry F.slot_dict_keyiterator_next ty F.entry_dict_keyiterator_next ?_ (F.args_dict_keyiterator_next_1 _))));show wpAny _ _ ((type_of% nextOfTheView) _ _) _ _ _
 delta nextOfTheView
 refine wpAny_bind (wpAny_pure ?_);refine wpAny_bind (qH st hd Ft ?_);dsimp only;rw [if_neg (show ¬ (i:Int) < 0 by omega),show ((i:Int).toNat) = i from Int.toNat_natCast i,he];dsimp only;refine wpAny_bind (ou ty ?_);refine wpAny_bind (wpAny_isOneOf_keyiter ty ?_);obtain ⟨oi,e1,e2,e3⟩:=st;refine wpAny_bind (wpAny_setField e1 e3 (by simp) ?_);generalize hh:s.heap.update it _ = h1;have g1:h1.IsKeyIter it d (i + 1) es.size ep:=by
  rw [<- hh];refine ⟨_,Heap.get?_update_self _ e1 (Obj.isFreed_of_fields (Obj.data_mapFields e3 _)),(Obj.cls_mapFields _ _).trans e2,(Obj.data_mapFields e3 _).trans ?_⟩
  rfl
 have sb:Heap.SameBut it s.heap h1:=by rw [<- hh];exact Heap.SameBut.update _ _ _
 have ty1:=g1.typeIs (s:={ s with heap:=h1 });refine wpAny_bind (wpAny_holding ?_)
 delta pick
 refine wpAny_bind (wpAny_isOneOf_keyiter ty1 ?_);rw [if_pos (by decide)];exact wpAny_pure (wpAny_pure ⟨_,rfl,wpAny_pure (q h1 g1 sb)⟩)
theorem Fg {Q : Option Value -> Shared -> Prop} (hh : A.handled = none) (st : s.heap.IsKeyIter it d i es.size ep) (hd : s.heap.get? d = some o) (Ft : o.data = .dict es ep) (he : es[i]? = none)
    (q:∀ h',Heap.ExtBut it s.heap h'->Q none { s with heap:=h' }):wpAny (model prog w) A (pyNext (.ref it)) Q E s:=by
 have ty:=st.typeIs (s:=s);unfold pyNext;refine wpAny_bind (wpAny_attempt (wpAny_callSpecial?_slot ty F.slot_dict_keyiterator_next (wpAny_call_entry F.slot_dict_keyiterator_next ty F.entry_dict_keyiterator_next ?_ (F.args_dict_keyiterator_next_1 _))));show wpAny _ _ ((type_of% nextOfTheView) _ _) _ _ _
 delta nextOfTheView
 refine wpAny_bind (wpAny_pure ?_);refine wpAny_bind (qH st hd Ft ?_);dsimp only;rw [if_neg (show ¬ (i:Int) < 0 by omega),show ((i:Int).toNat) = i from Int.toNat_natCast i,he];dsimp only;refine wpAny_bind (ou ty ?_);obtain ⟨oi,e1,e2,e3⟩:=st;refine wpAny_bind (wpAny_setField e1 e3 (by simp) ?_);generalize N3:s.heap.update it _ = h1;have sb:Heap.SameBut it s.heap h1:=by rw [<- N3];exact Heap.SameBut.update _ _ _
 refine wpAny_bind (wpAny_bind (wpAny_newTuple ?_ (Nat.zero_le _)));refine wpAny_bind (wpAny_pure ?_);refine wpAny_newObj_type ?_ (sizeOk_excFields _ _ _ _ _ _ _ _);unfold raiseNew;refine wpAny_bind (wpAny_handled ?_);have hh':A.in1.handled = none:=hh;rw [hh'];refine wpAny_throw ?_;refine wpAny_bind (wpAny_isInstance (T:="StopIteration") ⟨_,Heap.get?_push_size _ rfl,rfl⟩ isSubtype_stop ?_);rw [if_pos rfl];exact wpAny_pure (q _ fun b o n e=>Heap.get?_push_of_some _ (Heap.get?_push_of_some _ (sb.extBut b o n e)))
theorem CA {Q : Value -> Shared -> Prop} (hm : (d == sysModules) = false) (hd : s.heap.get? d = some o) (hx : o.ExactDict) (Ft : o.data = .dict es ep) (hz : es.size <= sizeLine)
    (q:∀ h',h'.IsKeyIter s.heap.objs.size d 0 es.size ep->(∀ b u,s.heap.get? b = some u->h'.get? b = some u)->Q (.ref s.heap.objs.size) { s with heap:=h' }):wpAny (model prog w) A (pyIter (.ref d)) Q E s:=by
 have ty:s.TypeIs (.ref d) "dict":=⟨o,hd,hx.1⟩;refine wpAny_pyIter_slot ty F.slot_dict_iter (wpAny_call_entry F.slot_dict_iter ty F.entry_dict_iter ?_ (F.args_dict_iter_1 _));show wpAny _ _ (Builtin.Dict.dictSlotNone "__iter__" { pos:=[.ref d] } >>= _) _ _ _;refine wpAny_bind (wpAny_bind (wpAny_notOrdered_dict ty (wpAny_bind (wpAny_pure (wpAny_pure ?_)))));refine wpAny_bind (wpAny_pure ?_);refine wpAny_bind ?_;unfold Builtin.Dict.showsAll;rw [if_neg (by rw [hm];decide)];refine wpAny_pure ?_;refine wpAny_bind (wpAny_dictEntries hd Ft ?_);refine wpAny_bind (wpAny_dictEpoch hd Ft ?_);refine wpAny_bind (wpAny_newObj_type ?_ ?_)
 ·refine wpAny_pure ⟨_,rfl,"dict_keyiterator",_,⟨_,Heap.get?_push_size _ rfl,rfl⟩,F.slot_dict_keyiterator_next.lookup,q _ ⟨_,Heap.get?_push_size _ rfl,rfl,rfl⟩ fun b u e=>Heap.get?_push_of_some _ e⟩
 ·show sizeOk _
  first | trivial | exact Nat.le_refl _ | (unfold sizeOk;simp [sizeLine_eq]) | (simp [sizeOk,sizeLine_eq])
end
end L2
namespace L2
open PySem PySem.Spec PyProof.Rows
section
variable {X:Cx} {K:W.Frag} {σ:St} {H:Hp} {Q:VK} {e:Expr} {te:TE} {pos:Pos} {pins:List (Addr × Obj)} {s:Shared}
theorem Inv.freeze {a:Addr} {aF:List (List Key × V)} (I:Inv X pins σ H s) (e:H a = some (.dT aF)):∃ o,s.heap.get? a = some o/\Inv X pins σ (upd H a (.frz o (.dT aF))) s:=by
 have ho:=I.hok a _ e;obtain ⟨_,_,xs,r,o,es,ep,h1,h2⟩:=id ho;refine ⟨o,h1,?_⟩;have nt:∀ b u,H b = some u->(∀ k,u ≠ .dT k)->b ≠ a:=fun b u q n z=>by rw [z,e] at q;cases q;exact n _ rfl
 have un:Un X.fs [] H (upd H a (.frz o (.dT aF))) s.heap s.heap:=by
  refine ⟨fun b o q _ _ _=>q,fun b o q _ _ _=>⟨o.slots,q⟩,fun b o q n _=>?_,fun b o q _=>⟨o,q⟩,fun b xs q=>?_,fun b o u q=>?_,fun b ps q=>⟨#[],?_⟩⟩
  ·rw [aD (fun z=>by rw [z,e] at n;cases n)];exact n
  ·rw [aD (nt b _ q (fun _ z=>by cases z))];exact q
  ·rw [aD (nt b _ q (fun _ z=>by cases z))];exact q
  ·rw [aD (nt b _ q (fun _ z=>by cases z)),q];simp
 have ht:∀ b ys,H b = some (.tup ys)->upd H a (.frz o (.dT aF)) b = some (.tup ys):=fun b ys q=>by rw [aD (nt b _ q (fun _ z=>by cases z))];exact q
 have hw:∀ b x,H b = some (.own x)->upd H a (.frz o (.dT aF)) b = some (.own x):=fun b x q=>by rw [aD (nt b _ q (fun _ z=>by cases z))];exact q
 refine I.un (t':=s.toks) un fun b u q=>?_
 by_cases z:b = a
 ·subst z;rw [aE] at q
  cases q
  exact ⟨h1,ho.stay (fun c v _ q=>q) (fun c r=>hw c _ r) fun c xs r=>ht c _ r⟩
 ·rw [aD z] at q;exact (I.hok b u q).stay (fun c v _ q=>q) (fun c r=>hw c _ r) fun c xs r=>ht c _ r
def Og (a:Addr) (o:Obj) (aF:List (List Key × V)):It :=
 ⟨fun i H=>H a = some (.frz o (.dT aF))/\i < aF.length,fun i H x H'=>H' = H/\∃ b k v,aF[i]? = some (k,v)/\x = .ref b/\H b = some (.tup (k.map kV)),fun i H=>H a = some (.frz o (.dT aF))/\aF.length <= i⟩
theorem yU {P:Program} {w:World} {K:W.Frag} {tg:Expr} (a it:Addr) (o:Obj) (aF:List (List Key × V)) (es:Array DictEntry) (ep:Nat) (cO:o.data = .dict es ep):Turn P w K tg (Og a o aF) [it] it (fun i h=>h.IsKeyIter it a i es.size ep) where
 mem:=by simp
 obj:=fun i h st b hb=>by
  have e:b = it:=by simpa using hb
  subst e;obtain ⟨o,e,c,d⟩:=st;exact ⟨o,e,fun v z=>by rw [d] at z;cases z⟩
 keep:=fun i h h' st k=>st.at fun o e=>k it (by simp) o e
 item:=by
  intro X hP hw hK hc i pins s σ H E I hf st hg;subst hP hw hK;obtain ⟨ha,hi⟩:=hg;obtain ⟨ho,_,_,xs,r,o',gC,Mv,h1,h2,h3,h4,h5⟩:=I.hok a _ ha;rw [ho] at h1
  cases h1
  rw [cO] at h3
  cases h3
  obtain ⟨f0,f1,f2,f3,f4,f5⟩:=hf it (by simp);have hlen:xs.length = aF.length:=by
   have:∀ {l:List (List Key × V)} {m:List (List Key × Addr × Value)},KT H l m->m.length = l.length:=by
    intro l m q
    induction q with
    | nil=>rfl
    | cons _ _ ih=>rw [List.length_cons,List.length_cons,ih]
   exact this r
  have hx:i < xs.length:=by omega
  have JE:es[i]? = some (entryOfKey (tupleKind (cQ X.prog X.w)) xs[i]):=by
   rw [<- Array.getElem?_toList,h4,List.getElem?_map,List.getElem?_eq_getElem hx];rfl
  have at_:∀ {l:List (List Key × V)} {m:List (List Key × Addr × Value)} {j:Nat} {q:List Key × Addr × Value},KT H l m->m[j]? = some q->∃ p,l[j]? = some p/\p.1 = q.1/\H q.2.1 = some (.tup (p.1.map kV)):=by
   intro l m j q t
   induction t generalizing j with
   | nil=>intro z;simp at z
   | @cons p q' ps qs hq t ih =>
    intro z
    cases j with
    | zero =>
     simp at z;subst z;exact ⟨p,rfl,hq.1,hq.2.1⟩
    | succ j=>exact ih (by simpa using z)
  obtain ⟨p,hp,hk,hb⟩:=at_ r (List.getElem?_eq_getElem hx);refine CB st ho cO JE fun h' bA sb=>?_
  have I1:Inv X pins σ H { s with heap:=h' }:=I.turned (t':=s.toks) (fun b o hb e=>(sb.2 b hb).trans e) f0 f1 f3 f4 f5
  exact ⟨_,rfl,letGo_keyiter bA ⟨.ref (xs[i]).2.1,H,I1,rfl,⟨rfl,_,p.1,p.2,hp,rfl,hb⟩,bA,fun b hb=>(hf b hb).1⟩⟩
 done:=by
  intro X hP hw hK hc i pins s σ H E I hf st hg;subst hP hw hK;obtain ⟨ha,hi⟩:=hg;obtain ⟨ho,_,_,xs,r,o',gC,Mv,h1,h2,h3,h4,h5⟩:=I.hok a _ ha;rw [ho] at h1
  cases h1
  rw [cO] at h3
  cases h3
  obtain ⟨f0,f1,f2,f3,f4,f5⟩:=hf it (by simp);have hlen:xs.length = aF.length:=by
   have:∀ {l:List (List Key × V)} {m:List (List Key × Addr × Value)},KT H l m->m.length = l.length:=by
    intro l m q
    induction q with
    | nil=>rfl
    | cons _ _ ih=>rw [List.length_cons,List.length_cons,ih]
   exact this r
  have JE:es[i]? = none:=by
   rw [<- Array.getElem?_toList,h4,List.getElem?_map,List.getElem?_eq_none (by omega)];rfl
  exact Fg (I.ok.hd hc) st ho cO JE fun h' eb=>⟨rfl,I.turned (t':=s.toks) (fun b o hb e=>eb b o hb e) f0 f1 f3 f4 f5⟩
 self:=fun _ _ _ _ _ st h=>wpAny_pyIter_keyiter st h
def GN (te:TE):TI:=fun σ H R=>te σ H fun x H1=>∃ a aF,x = .ref a/\H1 a = some (.dT aF)/\∀ o,R (Og a o aF) (upd H1 a (.frz o (.dT aF)))
theorem FH {tg:Expr} (h:BE X e te):BI X tg e (GN te):=⟨by
 intro pins s σ H R I q;refine cz (h.h pins s σ H _ I q) fun u s1 ⟨x,H1,I1,rx,a,aF,ex,ha,q⟩=>?_
 subst ex
 cases (show u = Value.ref a from rx)
 obtain ⟨o,ho,I2⟩:=I1.freeze ha;obtain ⟨_,hm,xs,r,o',es,ep,h1,h2,h3,h4,h5⟩:=I1.hok a _ ha;rw [ho] at h1
 cases h1
 have hz:es.size <= sizeLine:=by
  have hl:=(G0 I1.hok ha).1;have:∀ {l:List (List Key × V)} {m:List (List Key × Addr × Value)},KT H1 l m->m.length = l.length:=by
   intro l m q
   induction q with
   | nil=>rfl
   | cons _ _ ih=>rw [List.length_cons,List.length_cons,ih]
  have:=this r;rw [<- Array.length_toList,h4,List.length_map,this];exact hl
 refine CA hm ho h2 h3 hz fun h' st k=>?_
 have hn:upd H1 a (.frz o (.dT aF)) s1.heap.objs.size = none:=I2.hok.fresh (Nat.le_refl _);refine ⟨s1.heap.objs.size,[s1.heap.objs.size],_,_,_,rfl,I2.kept (t':=s1.toks) k,yU a _ o aF es ep h3,st,fun b hb=>?_,q o⟩
 rw [List.mem_singleton.mp hb];exact I2.fpOk (Nat.le_refl _) hn⟩
instance zz2 {te:TE} {F:It->Hp->Prop}:bK (GN te σ H F) (te σ H fun x H1=>∃ a aF,x = .ref a/\H1 a = some (.dT aF)/\∀ o,F (Og a o aF) (upd H1 a (.frz o (.dT aF)))):=⟨id⟩
end
end L2
namespace L2
open PySem PySem.Spec PySem.W PyProof.Rows
variable {qual:Str} {P:Addr} {pos:Pos}
section
variable {Md:Model} {A:Around} {E:Value->Shared->Prop} {s:Shared} {name:Str} {params:Arguments} {body:Expr} {scope:Scope} {env:Env} {c c':Addr} {ps:Array Value} {firstLine:Nat} {mg:Str->Option Value} {Q:Value->Shared->Prop}
theorem Fd (hc : closureFor scope env = pure []) (hg : env.globals = mainGlobals) (hn : s.heap.Ns mainGlobals mg) (j5 : env.code = .ref c) (hC : CodeHd s.heap c P) (hP : s.heap.get? P = some (tabObj ps)) (ht : TriplesOk ps.toList) (hm : codeAmong pos ps.toList = some (.ref c')) (hB : s.heap.BuiltinsAt mg P)
    (q:∀ i0,Q (.ref s.heap.objs.size) { s with heap:=s.heap.push (kla_obj name qual params body scope [] ((mg (Str.ofString "__name__")).getD .none) c' i0) }):wpAny Md A (makeFunction name qual params (.expr body) scope env [] [] [] pos firstLine) Q E s:=by
 rw [makeFunction_eq];dsimp only;rw [if_pos (show ([]:List Value).isEmpty = true from rfl)];refine wpAny_bind (wpAny_pure ?_);rw [List.zip_nil_right,List.filterMap_nil,if_pos (show ([]:List (Str × Value)).isEmpty = true from rfl)];refine wpAny_bind (wpAny_pure ?_);refine wpAny_bind (wpAny_pure ?_);unfold makeTail;rw [hc];refine wpAny_bind (wpAny_pure ?_);dsimp only;rw [if_pos (show ([]:List (Str × Addr)).isEmpty = true from rfl)];refine wpAny_bind (wpAny_pure ?_);refine wpAny_bind (wpAny_functionCode_hit j5 (hC.code hP ht) hm ?_);obtain ⟨bm,ob,b1,b2,b3,b4,b5,b6,b7,b8⟩:=hB;rw [hg];refine wpAny_bind (wpAny_builtinsFor hn b1 b2 b5 b6 b7 b8 ?_);refine wpAny_bind (wpAny_nsGet hn ?_);refine wpAny_bind (wpAny_pure ?_);refine wpAny_newObj_type (q .none) ?_;trivial
end
def TabOk (P:Addr) (pos:Pos) (qual:Str) (H:Hp):Prop:=∃ ps,H P = some (.tbl ps)/\TriplesOk ps.toList/\(codeAmong pos ps.toList = none \/ ∃ c',codeAmong pos ps.toList = some (.ref c')/\H c' = some (.ext (gp qual c')))
theorem TabOk.start {H:Hp} (h:H P = some (.tbl #[])):TabOk P pos qual H:=⟨#[],h,trivial,.inl rfl⟩
theorem TabOk.same {H H':Hp} (h:TabOk P pos qual H) (s:Same H H'):TabOk P pos qual H':=by
 obtain ⟨ps,h1,h2,h3⟩:=h;exact ⟨ps,s _ _ h1,h2,h3.imp id fun ⟨c',a,b⟩=>⟨c',a,s _ _ b⟩⟩
end L2
namespace HT
open PySem PySem.Spec PyProof.Rows
end HT
namespace L2
open PySem PySem.Spec PyProof.Rows
abbrev At:=Sum Str Int
def Ny:At->V
 | .inl x=>.str x
 | .inr n=>.int n
inductive AtsAre:List Value->List At->Prop
 | nil:AtsAre [] []
 | str {us r} (x:Str) (t:Tok):AtsAre us r->AtsAre (.str x t :: us) (.inl x :: r)
 | int {us r} (n:Int) (t:Tok):AtsAre us r->AtsAre (.int n t :: us) (.inr n :: r)
theorem AtsAre.length {us:List Value} {as:List At} (h:AtsAre us as):us.length = as.length:=by
 induction h with
 | nil=>rfl
 | str _ _ _ ih=>simp only [List.length_cons,ih]
 | int _ _ _ ih=>simp only [List.length_cons,ih]
theorem jx:∀ {as:List At} {us:List Value},Vals (as.map Ny) us->AtsAre us as
 | [],_,r=>by rw [List.map_nil] at r;cases r;exact .nil
 | .inl x :: as,_,r=>by
  rw [List.map_cons] at r
  cases r with
  | cons r1 r2 =>
   obtain ⟨t,rfl⟩:=r1;exact .str x t (jx r2)
 | .inr n :: as,_,r=>by
  rw [List.map_cons] at r
  cases r with
  | cons r1 r2 =>
   obtain ⟨t,rfl⟩:=r1;exact .int n t (jx r2)
def qF:List At->List At->Prop
 | .inl _ :: xs,.inl _ :: ys=>qF xs ys
 | .inr _ :: xs,.inr _ :: ys=>qF xs ys
 | .inl _ :: _,.inr _ :: _=>False
 | .inr _ :: _,.inl _ :: _=>False
 | _,_=>True
def lH:List At->List At->Bool
 | [],[]=>false
 | [],_ :: _=>true
 | _ :: _,[]=>false
 | .inl x :: xs,.inl y :: ys=>if x = y then lH xs ys else decide (x.cps.toList < y.cps.toList)
 | .inr x :: xs,.inr y :: ys=>if x = y then lH xs ys else decide (x < y)
 | _ :: _,_ :: _=>false
theorem BC (A : Around) (s : Shared) (a : Str) (t : Tok) (c : Str) (u : Tok) (prog : Program) (w : World) (E : Value -> Shared -> Prop) (Q : Value -> Shared -> Prop) (h : Q (.bool (decide (a.cps.toList < c.cps.toList))) s) :
    wpAny (model prog w) A (richCompare .Lt (.str a t) (.str c u)) Q E s :=
 (PyProof.Rows.lt_str h:wpAny (model prog w) A (compareOp .Lt (.str a t) (.str c u)) Q E s)
section
open PySem.SeqAt
open PySem.AutoSeq1 (wpAny_loadPart')
open PySem.MeetsSeq PySem.MeetsSeq2 PySem.MeetsSeq3
theorem rE (l b : Addr) (items items2 : Array Value) (n n2 : Nat) (dd Ku : Option Addr) (sl Gp : Array (Option Value)) (ns ms : List At) (hi : AtsAre items.toList ns) (hj : AtsAre items2.toList ms) (hk : qF ns ms) :
    Meets (Builtin.«tuple.__lt__» ⟨[.ref l,.ref b],[]⟩)
     (fun _ R s=>s.heap.get? l = some { cls:=.type "tuple",dict:=dd,data:=.seq items n,slots:=sl }/\s.heap.get? b = some { cls:=.type "tuple",dict:=Ku,data:=.seq items2 n2,slots:=Gp } /\
      R (.ok (.ret (.bool (lH ns ms)))) s) :=
 .of_wp fun prog w A R s h=>by
  obtain ⟨hp,g,d,tk,os⟩:=s;obtain ⟨hl,hb,h⟩:=h;have f2:=AutoSeq1.sub_tuple_tuple;have z1:items.size = ns.length:=by rw [<- hi.length];simp
  have z2:items2.size = ms.length:=by rw [<- hj.length];simp
  wp_walk using wpAny_loadPart' hl,wpAny_loadPart' hb,wpAny_forIn_list _ (fun rest b s'=>b.1 = none/\s' = ⟨hp,g,d,tk,os⟩/\∃ (vs ws:List Value) (GD GG:List At),rest = vs.zip ws /\
   AtsAre vs GD/\AtsAre ws GG/\qF GD GG/\GD.length + items2.size = GG.length + items.size/\R (.ok (.ret (.bool (lH GD GG)))) ⟨hp,g,d,tk,os⟩) _
  case turn =>
   rintro ⟨y,x⟩ rest b s' ⟨yA,rfl,vs,ws,GD,GG,hz,Uh,NW,LZ,hlen,hR⟩
   cases Uh with
   | nil=>rw [List.zip_nil_left] at hz;cases hz
   | str a t Js =>
    cases NW with
    | nil=>rw [List.zip_nil_right] at hz;cases hz
    | int c u CJ=>exact LZ.elim
    | str c u CJ =>
     rw [List.zip_cons_cons] at hz
     injection hz with Jr CM
     injection Jr with hy hx
     subst hy hx;simp only [lH] at hR;simp only [List.length_cons] at hlen;refine wpAny_bind (SeqAt.EqAt.str_str a t c u prog w _ _ ?_)
     cases e:(a == c) with
     | true =>
      rw [if_pos (eq_of_beq e)] at hR
      wp_walk
      exact ⟨rfl,rfl,_,_,_,_,CM,Js,CJ,LZ,by omega,hR⟩
     | false =>
      rw [if_neg (fun q=>by rw [q] at e;simp at e)] at hR;have hri:=BC A.in1 ⟨hp,g,d,tk,os⟩ a t c u prog w
      wp_walk using hri
      exact ⟨_,rfl,by simpa using hR⟩
   | int a t Js =>
    cases NW with
    | nil=>rw [List.zip_nil_right] at hz;cases hz
    | str c u CJ=>exact LZ.elim
    | int c u CJ =>
     rw [List.zip_cons_cons] at hz
     injection hz with Jr CM
     injection Jr with hy hx
     subst hy hx;simp only [lH] at hR;simp only [List.length_cons] at hlen;obtain ⟨e,he,L6⟩:=HT.eqAt_int A.in1 ⟨hp,g,d,tk,os⟩ a t c u;refine wpAny_bind (he prog w _ _ ?_)
     cases e with
     | true =>
      rw [if_pos (L6.mp rfl)] at hR
      wp_walk
      exact ⟨rfl,rfl,_,_,_,_,CM,Js,CJ,LZ,by omega,hR⟩
     | false =>
      rw [if_neg (fun q=>absurd (L6.mpr q) Bool.false_ne_true)] at hR;have hri:=HT.rcLt_int A.in1 ⟨hp,g,d,tk,os⟩ a t c u prog w
      wp_walk using hri
      exact ⟨_,rfl,by simpa using hR⟩
  case fin =>
   rintro ⟨b1,b2⟩ s' ⟨yA,rfl,vs,ws,GD,GG,hz,Uh,NW,LZ,hlen,hR⟩;simp only at yA;subst yA;have l1:=Uh.length;have l2:=NW.length;have hv:lH GD GG = decide (items.size < items2.size):=by
    match GD,GG with
    | [],[] =>
     simp only [List.length_nil] at hlen;exact (decide_eq_false (by omega)).symm
    | [],_ :: _ =>
     simp only [List.length_nil,List.length_cons] at hlen;exact (decide_eq_true (by omega)).symm
    | _ :: _,[] =>
     simp only [List.length_nil,List.length_cons] at hlen;exact (decide_eq_false (by omega)).symm
    | _ :: _,_ :: _ =>
     match vs,ws,l1,l2 with
     | _ :: _,_ :: _,_,_ =>
      rw [List.zip_cons_cons] at hz
      cases hz
   rw [hv] at hR
   wp_walk
   exact ⟨_,rfl,by simpa [Builtin.Tuple.tupleCompareSizes] using hR⟩
  case h =>
   exact ⟨rfl,rfl,items.toList,items2.toList,ns,ms,rfl,hi,hj,hk,by omega,h⟩
end
section
variable {X:Cx} {K:W.Frag} {H:Hp} {Q:VK}
def K3 (K:W.Frag):R2:=fun x y H Q=>∃ a b as bs,x = .ref a/\y = .ref b/\SqT K H a (as.map Ny)/\SqT K H b (bs.map Ny)/\qF as bs/\Q (.bl (lH as bs)) H
theorem IP (hu:X.A.units < cLine):OpR X (compareOp .Lt) (K3 X.K):=by
 intro pins s σ H x y v u Q I rx ry h;obtain ⟨a,b,as,bs,rfl,rfl,ha,hb,hk,q⟩:=h
 cases rx
 cases ry
 obtain ⟨its,r1,p1,_⟩:=I.tuple ha;obtain ⟨iX,r2,p2,_⟩:=I.tuple hb;obtain ⟨⟨cls,dd,data,sl⟩,ho,hc,n,hd⟩:=id p1;obtain ⟨⟨XI,Ku,data2,Gp⟩,Jz,yy,n2,hd2⟩:=id p2;simp only at hc hd yy hd2;subst hc hd yy hd2;exact richCompare_meets_room (op:=.Lt) ⟨_,ho,rfl⟩ ⟨_,Jz,rfl⟩ PySem.F.slot_tuple_lt PySem.F.entry_tuple_lt (PySem.F.args_tuple_lt_2 _ _) (rE a b its.toArray iX.toArray n n2 dd Ku sl Gp as bs (jx r1) (jx r2) hk)
  ⟨ho,Jz,show Value.bool (lH as bs) ≠ Value.notImplemented/\_ from ⟨(fun x=>nomatch x),.bl (lH as bs),H,I,rfl,q⟩⟩ hu
theorem HW {a b:Addr} {as bs:List At} (h1:SqT K H a (as.map Ny)) (h2:SqT K H b (bs.map Ny)) (h3:qF as bs) (h:Q (.bl (lH as bs)) H):K3 K (.ref a) (.ref b) H Q:=⟨a,b,as,bs,rfl,rfl,h1,h2,h3,h⟩
end
section
variable {X:Cx} {K:W.Frag} {σ:St} {H:Hp} {Q:VK} {o i value:Expr} {td ty tv:TE} {pos pos':Pos}
theorem FI:BE X (.Dict [] [] pos) wx:=⟨B4⟩
theorem Dk (hu:X.A.units + 1 < cLine) (ho:BE X o td) (hi:BE X i ty) (hv:BE X value tv) (hs:swapsWith value (some (.Subscript o i pos')) pos.line X.env = pure false:=by rfl):BS X (.Assign [.Subscript o i pos'] value pos) (ya td ty tv):=⟨Ez hu ho.h hi.h hv.h hs⟩
theorem FJ (hu:X.A.units + 1 < cLine) (ho:BE X o td) (hi:BE X i ty) (hs:J6 i):BE X (.Subscript o i pos) (AO td ty):=⟨EM hu ho.h hi.h hs⟩
instance zz3 {D:Ends}:bK (ya td ty tv D σ H) (tv σ H fun v H1=>td σ H1 fun x H2=>ty σ H2 fun y H3=>∃ a H4,x = .ref a/\DPut H3 a y v H4/\D.nx σ H4):=⟨id⟩
instance zz4:bK (AO td ty σ H Q) (td σ H fun x H1=>ty σ H1 fun y H2=>∃ a v,x = .ref a/\DGet H2 a y (some v)/\Q v H2):=⟨id⟩
instance zz5 {t:TA} {tk:TE}:bK (wu X t tk σ H Q) (t σ H fun vs H1=>tk σ H1 fun f H2=>nR X vs f H2 Q):=⟨id⟩
theorem BB (h:∀ p H1,H p = none->Same H H1->H1 p = some (.dT [])->Q (.ref p) H1):wx σ H Q:=fun p hp=>h p _ hp (aU hp) aE
theorem Bz {a b:Addr} {aF:List (List Key × V)} {k:List Key} {v:V} {F:Hp->Prop} (e:H a = some (.dT aF)) (eb:H b = some (.tup (k.map kV))) (hl:aF.length < sizeLine) (h:F (upd H a (.dT (putK aF k v)))):∃ a' H4,V.ref a = .ref a'/\DPut H a' (.ref b) v H4/\F H4:=⟨a,_,rfl,DPut.t e eb hl,h⟩
end
end L2
namespace SW
open PySem PySem.SetTable
variable {xs:Array Nat} {j:Nat} {α:Type} {t:SetTable} {h:Int}
abbrev rp (xs:Array Nat):Prop:=xs.toList.Pairwise (· < ·)
theorem wM (h:rp xs) {i k:Nat} (hik:i < k) (hk:k < xs.size):xs[i]'(by omega) < xs[k]:=by
 have:=List.pairwise_iff_getElem.mp h i k (by rw [Array.length_toList];omega) (by rw [Array.length_toList];omega) hik;simpa using this
theorem Dp (hr : rp xs) : ∀ (f lo hi : Nat), lo <= hi -> hi <= xs.size -> hi - lo <= f -> (∀ i (h : i < xs.size), i < lo -> xs[i] < j) -> (∀ i (h : i < xs.size), hi <= i -> j <= xs[i]) ->
    below.go xs j f lo hi <= xs.size/\(∀ i (h:i < xs.size),i < below.go xs j f lo hi->xs[i] < j)/\∀ i (h:i < xs.size),below.go xs j f lo hi <= i->j <= xs[i]:=by
 intro f
 induction f with
 | zero =>
  intro lo hi h1 h2 h3 h4 h5;unfold below.go;have:lo = hi:=by omega
  subst this;exact ⟨h2,h4,h5⟩
 | succ f ih =>
  intro lo hi h1 h2 h3 h4 h5;unfold below.go
  by_cases hl:lo < hi
  ·rw [if_pos hl];dsimp only;have hm:(lo + hi) / 2 < xs.size:=by omega
   have e:xs.getD ((lo + hi) / 2) j = xs[(lo + hi) / 2]:=by simp [Array.getD,hm]
   rw [e]
   by_cases hx:xs[(lo + hi) / 2] < j
   ·rw [if_pos hx];refine ih _ _ (by omega) h2 (by omega) (fun i h Kn=>?_) h5
    by_cases Uz:i = (lo + hi) / 2
    ·subst Uz;exact hx
    ·exact Nat.lt_trans (wM hr (show i < (lo + hi) / 2 by omega) hm) hx
   ·rw [if_neg hx];refine ih _ _ (by omega) (by omega) (by omega) h4 (fun i h Kn=>?_)
    by_cases Uz:i = (lo + hi) / 2
    ·subst Uz;omega
    ·have:=wM hr (show (lo + hi) / 2 < i by omega) h;omega
  ·rw [if_neg hl];have:lo = hi:=by omega
   subst this;exact ⟨h2,h4,h5⟩
theorem xG (hr:rp xs):below xs j <= xs.size/\(∀ i (h:i < xs.size),i < below xs j->xs[i] < j)/\∀ i (h:i < xs.size),below xs j <= i->j <= xs[i]:=by
 unfold below;exact Dp hr _ _ _ (Nat.zero_le _) (Nat.le_refl _) (by omega) (fun i h z=>by omega) (fun i h z=>by omega)
theorem jJ (xs:Array α) (p:Nat) (x:α):(insertAt xs p x).toList = xs.toList.take p ++ x :: xs.toList.drop p:=by
 unfold insertAt;simp [List.take_of_length_le]
theorem insertAt_perm (xs:Array α) (p:Nat) (x:α):(insertAt xs p x).toList.Perm (xs.toList ++ [x]):=by
 rw [jJ];refine (List.perm_middle).trans ?_;rw [List.take_append_drop];exact (List.perm_append_singleton x xs.toList).symm
theorem wL (hr:rp xs) (hn:xs[below xs j]? ≠ some j):rp (insertAt xs (below xs j) j):=by
 obtain ⟨h1,h2,h3⟩:=xG (j:=j) hr;unfold rp;rw [jJ,List.pairwise_append];refine ⟨hr.sublist (List.take_sublist _ _),?_,fun a ha b hb=>?_⟩
 ·rw [List.pairwise_cons];refine ⟨fun b hb=>?_,hr.sublist (List.drop_sublist _ _)⟩;obtain ⟨i,hi,e⟩:=List.getElem_of_mem hb;rw [List.getElem_drop] at e;rw [List.length_drop,Array.length_toList] at hi;have h4:=h3 (below xs j + i) (by omega) (by omega);rw [Array.getElem_toList] at e;rw [<- e]
  by_cases z:j = xs[below xs j + i]
  ·cases i with
   | zero=>exact absurd (by rw [Array.getElem?_eq_getElem (by omega)];exact congrArg some z.symm) hn
   | succ i =>
    have h5:=h3 (below xs j) (by omega) (Nat.le_refl _);have h6:=wM hr (show below xs j < below xs j + (i + 1) by omega) (by omega);omega
  ·omega
 ·obtain ⟨i,hi,e⟩:=List.getElem_of_mem ha;rw [List.getElem_take] at e;rw [List.length_take,Array.length_toList] at hi;rw [Array.getElem_toList] at e;have ha':a < j:=by rw [<- e];exact h2 i (by omega) (by omega)
  rcases List.mem_cons.mp hb with rfl | hb
  ·exact ha'
  ·obtain ⟨k,hk,e'⟩:=List.getElem_of_mem hb;rw [List.getElem_drop] at e';rw [List.length_drop,Array.length_toList] at hk;rw [Array.getElem_toList] at e';have:=h3 (below xs j + k) (by omega) (by omega);omega
def ND (t:SetTable) (j:Nat):Prop:=t.place[below t.place j]? ≠ some j
theorem yM (h:∀ i,t.slot j ≠ .live i):ND t j:=fun z=>by
 refine h (below t.place j) ?_;unfold SetTable.slot;dsimp only;rw [if_pos (by rw [z];exact beq_self_eq_true _)]
theorem BU : ∀ (f : Nat) (p : Probe), (∀ d, p.dummy = some d -> ∀ i, t.slot d ≠ .live i) -> ∀ m, probe.go t (fun _ => h + 1) h f p = some m ->
    ∃ j d,m = .empty j d/\(∀ i,t.slot j ≠ .live i)/\∀ e,d = some e->∀ i,t.slot e ≠ .live i:=by
 intro f
 induction f with
 | zero=>intro p hd m e;unfold probe.go at e;cases e
 | succ f ih =>
  intro p hd m e;unfold probe.go at e;have ZW:∀ q:Probe,(t.advance q).dummy = q.dummy:=fun q=>by
   unfold SetTable.advance
   split <;> rfl
  split at e
  ·next hs =>
   cases e
   exact ⟨_,_,rfl,(fun i z=>by rw [hs] at z;cases z),hd⟩
  ·next hs =>
   refine ih _ (fun d CS=>?_) m e;rw [ZW] at CS
   cases CS
   intro i z;rw [hs] at z
   cases z
  ·next i hs =>
   rw [if_neg (by simp;omega)] at e;refine ih _ (fun d CS=>?_) m e;rw [ZW] at CS;exact hd d CS
theorem zW {b:Bool} (e:t.freeSlot h = some (j,b)):ND t j:=by
 unfold SetTable.freeSlot at e
 split at e
 ·next j' d hp =>
  obtain ⟨j2,d2,e2,h1,h2⟩:=BU _ _ (fun d z=>by cases z) _ hp
  cases e2
  cases d with
  | none=>cases e;exact yM h1
  | some d=>cases e;exact yM (h2 d rfl)
 ·cases e
theorem jn (n:Nat):rp (Array.range n):=by
 unfold rp;rw [Array.toList_range];exact List.pairwise_lt_range
theorem fG (t:SetTable) (n:Nat):(t.standIn n).fits n = true:=by
 unfold SetTable.fits SetTable.standIn SetTable.fill;simp;omega
abbrev SE:=Array (Int × Value)
variable {es:SE}
theorem rW {n:Nat} (hr:rp t.place):rp (t.orStandIn n).place/\(t.orStandIn n).led = t.led/\(t.orStandIn n).fits n = true:=by
 unfold SetTable.orStandIn
 by_cases h:t.fits n = true
 ·rw [if_pos h];exact ⟨hr,rfl,h⟩
 ·rw [if_neg h];exact ⟨jn _,rfl,fG _ _⟩
theorem zG {x:Value} (hr:rp t.place):(layNew t es h x).1.toList.Perm (es.toList ++ [(h,x)])/\rp (layNew t es h x).2.1.place/\(layNew t es h x).2.1.led = t.led/\(layNew t es h x).2.1.fits (layNew t es h x).1.size = true:=by
 unfold layNew
 cases e:t.freeSlot h with
 | some r =>
  obtain ⟨j,b⟩:=r;have hp:rp (t.put j).1.place:=wL hr (zW e);obtain ⟨h1,h2,h3⟩:=rW (n:=(insertAt es (t.put j).2 (h,x)).size) hp;exact ⟨insertAt_perm _ _ _,h1,h2,h3⟩
 | none =>
  refine ⟨?_,jn _,rfl,?_⟩
  ·show (es.push (h,x)).toList.Perm _;rw [Array.toList_push]
  ·show (t.standIn (es.size + 1)).fits (es.push (h,x)).size = true;rw [show (es.push (h,x)).size = es.size + 1 by simp];exact fG _ _
theorem Bn {mask finger moves:Nat} {led plain:Bool} {hs:Array Int} {order:Array Nat} (e:laid mask finger moves led plain hs = some (t,order)):rp t.place/\t.led = led:=by
 unfold laid at e;obtain ⟨owner,_,e⟩:=Option.bind_eq_some_iff.mp e
 cases e
 refine ⟨?_,rfl⟩;unfold rp;dsimp only;rw [List.map_filterMap];refine List.Pairwise.filterMap _ ?_ List.pairwise_lt_range;intro a a' haa b hb b' yA
 cases h1:owner.getD a none with
 | none=>rw [h1] at hb;cases hb
 | some u =>
  cases h2:owner.getD a' none with
  | none=>rw [h2] at yA;cases yA
  | some u' =>
   rw [h1] at hb;rw [h2] at yA
   cases hb;cases yA
   exact haa
theorem GX {α β:Type} {f:β->Option α}:∀ {l:List β} {r:List α},l.map f = r.map some->l.filterMap f = r
 | [],[],_=>rfl
 | [],_ :: _,h=>by simp at h
 | _ :: _,[],h=>by simp at h
 | b :: l,a :: r,h=>by
  simp only [List.map_cons,List.cons.injEq] at h;rw [List.filterMap_cons,h.1];exact congrArg (a :: ·) (GX h.2)
theorem range_items (es:Array α):(List.range es.size).filterMap (fun i=>es[i]?) = es.toList:=by
 have e:(List.range es.size).map (fun i=>es[i]?) = es.toList.map some:=by
  apply List.ext_getElem
  ·simp
  ·intro i h1 h2;simp at h1;simp [h1]
 exact GX e
theorem uu {n:Nat}:(relayAll t es n).1.toList.Perm es.toList/\rp (relayAll t es n).2.1.place/\(relayAll t es n).2.1.led = t.led/\(relayAll t es n).2.1.fits (relayAll t es n).1.size = true:=by
 unfold relayAll
 split
 ·next t' order e =>
  dsimp only
  split
  ·next hc =>
   rw [Bool.and_eq_true] at hc;obtain ⟨h1,h2⟩:=Bn (show laid _ _ _ _ _ _ = some (t',order) from e);refine ⟨?_,h1,h2,hc.2⟩;have hp:order.toList.Perm (List.range es.size):=List.isPerm_iff.mp hc.1;dsimp only;rw [Array.toList_filterMap];refine (hp.filterMap _).trans ?_;rw [range_items]
  ·exact ⟨.refl _,jn _,rfl,fG _ _⟩
 ·exact ⟨.refl _,jn _,rfl,fG _ _⟩
section
variable {prog:Program} {w:World} {κ:Type} [DecidableEq κ] (kd:KeyKind prog w κ)
def vX (k:κ) (e:Int × Value):Prop:=kd.is k e.2 = true/\e.1 = kd.hash k/\e.2.scannable = true
def uX (w:World):Bool:=!(w.params.followText "set-order")
def SetW (h:Heap) (a:Addr) (ks:List κ):Prop :=
 ∃ (o:Obj) (es:SE) (ep:Nat) (t:SetTable) (L:List (κ × (Int × Value))),h.get? a = some o/\o.ExactSet/\o.data = .set es ep t/\L.map (·.2) = es.toList/\(L.map (·.1)).Perm ks/\(∀ p ∈ L,vX kd p.1 p.2)/\es.size < scanBound/\t.fits es.size = true/\rp t.place/\t.led = uX w
variable {kd} {A:Around} {E:Value->Shared->Prop} {s:Shared} {a:Addr} {ks:List κ} {k:κ} {x:Value}
theorem C3 {L:List (κ × (Int × Value))} (l1:L.map (·.2) = es.toList) (l3:∀ p ∈ L,vX kd p.1 p.2):ElemsOf kd es.toList:=fun e he=>by
 rw [<- l1] at he;obtain ⟨p,hp,rfl⟩:=List.mem_map.mp he;obtain ⟨a1,a2,a3⟩:=l3 p hp;exact ⟨⟨p.1,a1,a2⟩,a3⟩
theorem SetW.kept {h h':Heap} (S:SetW kd h a ks) (e:∀ o,h.get? a = some o->h'.get? a = some o):SetW kd h' a ks:=by
 obtain ⟨o,es,ep,t,L,ho,r⟩:=S;exact ⟨o,es,ep,t,L,e o ho,r⟩
theorem tU {h : Heap} {o : Obj} {es1 : SE} {ep : Nat} {t1 : SetTable} {L : List (κ × (Int × Value))} (ho : h.get? a = some o) (hx : o.ExactSet) (hd : o.data = .set es ep t) (l1 : L.map (·.2) = es1.toList) (l2 : (L.map (·.1)).Perm ks) (l3 : ∀ p ∈ L, vX kd p.1 p.2)
    (hb:es1.size < scanBound) (hf:t1.fits es1.size = true) (hr:rp t1.place) (hl:t1.led = uX w):(h.update a (Obj.putSet es1 t1)).get? a = some { o with data:=.set es1 (ep + 1) t1 }/\SetW kd (h.update a (Obj.putSet es1 t1)) a ks:=by
 have g:(h.update a (Obj.putSet es1 t1)).get? a = some { o with data:=.set es1 (ep + 1) t1 }:=by
  have z:=Heap.get?_update_self (Obj.putSet es1 t1) ho (by rw [putSet_of es1 t1 hd];rfl)
  rwa [putSet_of es1 t1 hd] at z
 exact ⟨g,_,es1,ep + 1,t1,L,g,hx,rfl,l1,l2,l3,hb,hf,hr,hl⟩
theorem xS {g : Bool -> Sem Unit} (hg : ∀ (b : Bool) (s1 : Shared) (P : Unit -> Shared -> Prop), P () s1 -> wpAny (model prog w) A (g b) P E s1) {o : Obj} {es1 : SE} {ep : Nat} {t1 : SetTable} {L : List (κ × (Int × Value))} (ho : s.heap.get? a = some o) (hx : o.ExactSet) (hd : o.data = .set es ep t)
    (l1:L.map (·.2) = es1.toList) (l2:(L.map (·.1)).Perm ks) (l3:∀ p ∈ L,vX kd p.1 p.2) (hb:es1.size < scanBound) (hf:t1.fits es1.size = true) (hr:rp t1.place) (hl:t1.led = uX w) {wd:Bool} {R:Option Bool->Shared->Prop}
    (q:∀ h',Heap.SameBut a s.heap h'->SetW kd h' a ks->R (some true) { s with heap:=h' }) :
    wpAny (model prog w) A (do
        storeSet a es1 t1
        if (!wd && t1.tooFull) = true then do
            g (relayAll t1 es1 (SetTable.grown es1.size)).2.2
            storeSet a (relayAll t1 es1 (SetTable.grown es1.size)).1 (relayAll t1 es1 (SetTable.grown es1.size)).2.1
            pure (some true)
         else pure (some true)) R E s:=by
 refine wpAny_bind (wpAny_storeSet_of ho hd ?_ (fits_of_scanBound hb));obtain ⟨g1,S1⟩:=tU (kd:=kd) ho hx hd l1 l2 l3 hb hf hr hl;have b1:=Heap.SameBut.update s.heap a (Obj.putSet es1 t1)
 by_cases c:(!wd && t1.tooFull) = true
 ·rw [if_pos c];obtain ⟨r1,r2,r3,r4⟩:=uu (t:=t1) (es:=es1) (n:=SetTable.grown es1.size);generalize relayAll t1 es1 (SetTable.grown es1.size) = z at r1 r2 r3 r4 ⊢;obtain ⟨L2,p1,p2⟩:=L2.perm_lift (r1.trans (.of_eq l1.symm)) L rfl;have hz:z.1.size = es1.size:=by simpa using r1.length_eq
  refine wpAny_bind (hg _ _ _ ?_);refine wpAny_bind (wpAny_storeSet_of g1 rfl ?_ (fits_of_scanBound (by rw [hz];exact hb)));obtain ⟨_,S2⟩:=tU (kd:=kd) (es1:=z.1) (t1:=z.2.1) g1 hx rfl p2.symm ((p1.map _).trans l2) (fun p hp=>l3 p (p1.mem_iff.mp hp)) (by rw [hz];exact hb) r4 r2 (r3.trans hl)
  exact wpAny_pure (q _ (b1.trans (Heap.SameBut.update _ a _)) S2)
 ·rw [if_neg c];exact wpAny_pure (q _ b1 S1)
theorem Hn {Q : Bool -> Shared -> Prop} (hk : kd.is k x = true) (hs : x.scannable = true) (S : SetW kd s.heap a ks) (room : ks.length + 1 < scanBound) (q : ∀ b h', Heap.SameBut a s.heap h' -> SetW kd h' a (if k ∈ ks then ks else ks ++ [k]) -> Q b { s with heap := h' }) :
    wpAny (model prog w) A (setAddHashed a x (kd.hash k)) Q E s:=by
 obtain ⟨o,es,ep,t,L,ho,hx,hd,l1,l2,l3,hb,hf,hr,hl⟩:=S;have el:=C3 l1 l3;have len:es.size = ks.length:=by
  have e1:=congrArg List.length l1;have e2:=l2.length_eq;simp only [List.length_map,Array.length_toList] at e1 e2;omega
 unfold setAddHashed setAddHashedIn;refine wpAny_holding (wpAny_bind (wpAny_setState_of ho hd hf ?_));dsimp only;rw [byScan_of hs hb el];simp only [↓reduceIte];unfold setAddByScan;refine wpAny_bind (wpAny_bind (wpAny_rule (wpAny_bind (wpAny_setScan_of hk ho hd hf el ?_))))
 cases e:List.findIdx? (fun e=>kd.is k e.2) es.toList with
 | some j =>
  obtain ⟨hj,hp,_⟩:=List.findIdx?_eq_some_iff_getElem.mp e;have hm:k ∈ ks:=by
   have vk:es.toList[j] ∈ L.map (·.2):=by rw [l1];exact List.getElem_mem hj
   obtain ⟨p,yw,e2⟩:=List.mem_map.mp vk;rw [<- e2] at hp;rw [kd.inj _ _ _ hp (l3 p yw).1];exact l2.mem_iff.mp (List.mem_map.mpr ⟨p,yw,rfl⟩)
  refine wpAny_pure (wpAny_pure ?_);have z:=q false s.heap (Heap.SameBut.refl a s.heap);rw [if_pos hm] at z;exact z ⟨o,es,ep,t,L,ho,hx,hd,l1,l2,l3,hb,hf,hr,hl⟩
 | none =>
  have hm:k ∉ ks:=fun z=>by
   obtain ⟨p,hp,e2⟩:=List.mem_map.mp (l2.mem_iff.mpr z);have:=List.findIdx?_eq_none_iff.mp e p.2 (by rw [<- l1];exact List.mem_map.mpr ⟨p,hp,rfl⟩);rw [<- e2,(l3 p hp).1] at this
   cases this
  obtain ⟨n1,n2,n3,n4⟩:=zG (t:=t) (es:=es) (h:=kd.hash k) (x:=x) hr;dsimp only;generalize layNew t es (kd.hash k) x = z at n1 n2 n3 n4 ⊢;obtain ⟨L',p1,p2⟩:=L2.perm_lift n1 (L ++ [(k,(kd.hash k,x))]) (by rw [List.map_append,l1];rfl);obtain ⟨es1,t1,wd,gv⟩:=z;dsimp only at n1 n2 n3 n4 p2 ⊢;have m2:(L'.map (·.1)).Perm (ks ++ [k]):=by
   refine (p1.map _).trans ?_;rw [List.map_append];exact l2.append_right _
  have m3:∀ p ∈ L',vX kd p.1 p.2:=fun p hp=>by
   rcases List.mem_append.mp (p1.mem_iff.mp hp) with h | h
   ·exact l3 p h
   ·rw [List.mem_singleton.mp h];exact ⟨hk,rfl,hs⟩
  have mz:es1.size < scanBound:=by
   have:=n1.length_eq;simp only [Array.length_toList,List.length_append,List.length_cons,List.length_nil] at this;omega
  have UA:∀ (b:Bool) (s1:Shared) (P:Unit->Shared->Prop),P () s1->wpAny (model prog w) A (match b with | true=>rule "set.scan.the-table-gave-way" | false=>pure ()) P E s1:=fun b s1 P h=>by
   cases b
   ·exact wpAny_pure h
   ·exact wpAny_rule h
  have fin:∀ h',Heap.SameBut a s.heap h'->SetW kd h' a (ks ++ [k])->Q true { s with heap:=h' }:=fun h' b1 S'=>q true h' b1 (by rw [if_neg hm];exact S')
  refine wpAny_bind (UA _ _ _ ?_)
  by_cases pl:t1.plain = true
  ·rw [if_pos pl];refine wpAny_bind ?_;rw [hashByValue_scannable 8 hs];refine wpAny_pure (xS (kd:=kd) UA ho hx hd p2.symm m2 m3 mz ?_ ?_ ?_ fun h' b1 S'=>wpAny_pure (fin h' b1 S'))
   ·split
    ·exact n4
    ·exact SetTable.fits_plain_off n4
   ·split <;> exact n2
   ·split <;> exact n3.trans hl
  ·rw [if_neg pl];refine wpAny_bind (wpAny_pure ?_);simp only [↓reduceIte];exact xS (kd:=kd) UA ho hx hd p2.symm m2 m3 mz n4 n2 (n3.trans hl) fun h' b1 S'=>wpAny_pure (fin h' b1 S')
end
end SW
namespace SW
open PySem PySem.Spec PySem.SetTable PyProof.Rows
variable {κ:Type}
def iR [DecidableEq κ] (ks:List κ) (k:κ):List κ:=if k ∈ ks then ks else ks ++ [k]
def onces [DecidableEq κ] (ks:List κ):List κ:=ks.foldl iR []
theorem Cf [DecidableEq κ] (ks:List κ) (k:κ):(iR ks k).length <= ks.length + 1:=by
 unfold iR
 split
 ·omega
 ·rw [List.length_append];exact Nat.le_refl _
theorem xa [DecidableEq κ] (ks:List κ) (k:κ):onces (ks ++ [k]) = iR (onces ks) k:=by
 unfold onces;rw [List.foldl_append]
 rfl
theorem qR {κ:Type} [DecidableEq κ]:∀ (ks acc:List κ),acc.Nodup->(ks.foldl iR acc).Nodup/\(ks.foldl iR acc).length <= acc.length + ks.length/\∀ x,x ∈ ks.foldl iR acc ↔ x ∈ acc \/ x ∈ ks
 | [],acc,h=>⟨h,Nat.le_refl _,fun x=>by simp⟩
 | k :: ks,acc,h=>by
  have hn:(iR acc k).Nodup:=by
   unfold iR
   split
   ·exact h
   ·next hk =>
    rw [List.nodup_append];exact ⟨h,List.pairwise_singleton _ _,fun a ha b hb e=>hk (by rw [List.mem_singleton.mp hb] at e;rw [<- e];exact ha)⟩
  obtain ⟨a,b,c⟩:=qR ks (iR acc k) hn;have:=Cf acc k;refine ⟨a,by rw [List.foldl_cons,List.length_cons];omega,fun x=>?_⟩
  rw [List.foldl_cons,c x,List.mem_cons];unfold iR
  split
  ·next hk =>
   constructor
   ·rintro (h | h)
    ·exact .inl h
    ·exact .inr (.inr h)
   ·rintro (h | h | h)
    ·exact .inl h
    ·rw [h];exact .inl hk
    ·exact .inr h
  ·rw [List.mem_append,List.mem_singleton]
   constructor
   ·rintro ((h | h) | h)
    ·exact .inl h
    ·exact .inr (.inl h)
    ·exact .inr (.inr h)
   ·rintro (h | h | h)
    ·exact .inl (.inl h)
    ·exact .inl (.inr h)
    ·exact .inr h
theorem onces_le [DecidableEq κ] (ks:List κ):(onces ks).length <= ks.length:=by unfold onces;simpa using (qR ks [] List.nodup_nil).2.1
section
variable {prog:Program} {w:World} [DecidableEq κ] {kd:KeyKind prog w κ} {A:Around} {R:Result->Shared->Prop} {E:Value->Shared->Prop} {s:Shared}
theorem DR {I Sa l : Addr} {its : Array Value} {ks : List κ} (hh : A.handled = none) (hlI : l ≠ I) (UP : Sa ≠ I) (hSl : Sa ≠ l) (hz : its.size = ks.length) (hit : ∀ (i : Nat) (v : Value), its[i]? = some v -> ∃ k, ks[i]? = some k /\ kd.is k v = true /\ v.scannable = true) (hb : ks.length + 1 < scanBound) :
    ∀ (m i:Nat) (s:Shared),ks.length - i = m->i <= ks.length->s.heap.IsListIter I l i->s.heap.IsList l its->SetW kd s.heap Sa (onces (ks.take i)) ->
     (∀ h' tk,(∀ b o,b ≠ Sa->b ≠ I->s.heap.get? b = some o->h'.get? b = some o)->SetW kd h' Sa (onces ks)->R (.ok (.ret .none)) { s with heap:=h',toks:=tk }) ->
     codeAny (model prog w) A (.builtin "set.update.loop" ⟨[.ref Sa,.ref I],[]⟩) R s:=by
 intro m
 induction m with
 | zero =>
  intro i s hm hi st hl S q;have e:i = ks.length:=by omega
  rw [e,List.take_length] at S;refine codeAny_builtin F.entry_set_update_loop ?_;rw [Around.under_plainId F.plain_set_update_loop _];show wpAny _ A.in1 (pyNext (.ref I) >>= _) _ _ s;refine wpAny_bind (wpAny_pyNext_list_end (A:=A.in1) (by simpa using hh) st hl (by simp;omega) fun h' eb=>?_)
  show wpAny _ A.in1 (ret Value.none) _ _ _;exact wpAny_pure (q h' s.toks (fun b o _ n z=>eb b o n z) (S.kept fun o z=>eb Sa o UP z))
 | succ m ih =>
  intro i s hm hi st hl S q;have ed:i < its.size:=by omega
  obtain ⟨k,hk,vn,ng⟩:=hit i _ (Array.getElem?_eq_getElem ed);refine codeAny_builtin F.entry_set_update_loop ?_;rw [Around.under_plainId F.plain_set_update_loop _];show wpAny _ A.in1 (pyNext (.ref I) >>= _) _ _ s;refine wpAny_bind (wpAny_pyNext_list_item (A:=A.in1) st hl (Array.getElem?_eq_getElem ed) fun h' bA sb=>?_)
  generalize its[i] = v at vn ng;show wpAny _ A.in1 (holding [v] (setAdd Sa v) >>= _) _ _ _;refine wpAny_bind (wpAny_holding ?_);unfold setAdd;refine wpAny_holding (wpAny_bind (kd.pyHash vn ?_));have S1:SetW kd h' Sa (onces (ks.take i)):=S.kept fun o z=>(sb.2 Sa UP).trans z
  have rm:(onces (ks.take i)).length + 1 < scanBound:=by
   have:=onces_le (ks.take i);rw [List.length_take] at this;omega
  refine Hn (kd:=kd) (s:={ s with heap:=h',toks:=s.toks + 1 }) vn ng S1 rm fun b h2 b2 S2=>?_
  have S3:SetW kd h2 Sa (onces (ks.take (i + 1))):=by
   obtain ⟨Kn,e⟩:=List.getElem?_eq_some_iff.mp hk;rw [List.take_succ_eq_append_getElem Kn,e,xa];exact S2
  have k2:∀ b o,b ≠ Sa->h'.get? b = some o->h2.get? b = some o:=fun b o n z=>(b2.2 b n).trans z
  refine wpAny_pure ⟨plainId_quiet F.plain_set_update_loop _,ih (i + 1) _ (by omega) (by omega) (bA.at fun o z=>k2 I o (Ne.symm UP) z) ?_ S3 fun h3 tk k3 S4=>?_⟩
  ·obtain ⟨o,z,r⟩:=hl;exact ⟨o,k2 l o (Ne.symm hSl) ((sb.2 l hlI).trans z),r⟩
  ·exact q h3 tk (fun b o n1 n2 z=>k3 b o n1 n2 (k2 b o n1 ((sb.2 b n2).trans z))) S4
theorem AS {h:Heap} {a:Addr} (e:h.get? a = some { cls:=.type "set",dict:=none,data:=.set #[] 0 (.fresh 0 0 (uX w)) }):SetW kd h a [] :=
 ⟨_,#[],0,_,[],e,⟨rfl,rfl,rfl⟩,rfl,rfl,.nil,fun p hp=>(nomatch hp),by unfold scanBound;decide,rfl,List.Pairwise.nil,rfl⟩
end
end SW
namespace SW
open PySem PySem.Spec PySem.SetTable
section
variable {prog:Program} {w:World} {κ:Type} [DecidableEq κ] {kd:KeyKind prog w κ} {A:Around} {E:Value->Shared->Prop} {s:Shared}
abbrev iC (w:World):Obj:={ cls:=.type "set",dict:=none,data:=.set #[] 0 (.fresh 0 0 (uX w)) }
theorem Hm (v:Value) {P:Value->Shared->Prop} (q:P (.ref s.heap.objs.size) { s with heap:=s.heap.push (iC w) }):codeAny (model prog w) A (.call (.builtin "set.__new__") ⟨[.type "set",v],[]⟩) (wants P E) s:=by
 refine codeAny_of_tree (show wpAny _ A.in1 (do checkBuiltinCall "set.__new__" ⟨[.type "set",v],[]⟩;again (.builtin "set.__new__" ⟨[.type "set",v],[]⟩)) _ _ s from ?_);refine wpAny_bind (wpAny_of_eq (F.newCall_set_1 v) (wpAny_pure ⟨plainId_quiet F.plain_set_new _,codeAny_builtin F.entry_set_new (show wpAny _ _ _ _ _ s from ?_)⟩));rw [Around.under_plainId F.plain_set_new _];unfold Builtin.«set.__new__» Builtin.Frozenset.newClass;have subs:=sub_set_self;obtain ⟨h0,g0,d0,k0,o0⟩:=s;dsimp only
 wp_walk
 refine wpAny_askSetting (wpAny_pure ?_);dsimp only;simp only [newObj];exact wpAny_bind (wpAny_alloc (wpAny_pure (wpAny_pure q)))
theorem sw_set {l : Addr} {its : Array Value} {ks : List κ} {Q : Value -> Shared -> Prop} (hh : A.handled = none) (hl : s.heap.IsList l its) (hz : its.size = ks.length) (hit : ∀ (i : Nat) (v : Value), its[i]? = some v -> ∃ k, ks[i]? = some k /\ kd.is k v = true /\ v.scannable = true) (hb : ks.length + 1 < scanBound)
    (q:∀ h' tk,SetW kd h' s.heap.objs.size (onces ks)->(∀ b o,s.heap.get? b = some o->h'.get? b = some o)->Q (.ref s.heap.objs.size) { s with heap:=h',toks:=tk }):wpAny (model prog w) A (call (.type "set") [.ref l]) Q E s:=by
 obtain ⟨c,tl,m1⟩:=F.called_set.mro;have m2:=F.called_set.made;have m3:=F.called_set.sub;refine wpAny_call (codeAny_of_tree (show wpAny _ _ (callAny (.type "set") _) _ _ _ from wpAny_pure ⟨Code.quiet_builtin _ (by decide +kernel),codeAny_builtin F.entry_type_call ?_⟩));rw [Around.under_plain (weight_type_call_type "set" [.ref l] []) rfl];have m4:=F.called_set.notType;have m5:=F.called_set.canCreate;have m6:=F.typeCall_set_1 (.ref l)
 repeat (any_goals (first | assumption | wp_step))
 refine codeAny_mono (Hm (.ref l) (E:=E) (P:=fun v s1=>v = .ref s.heap.objs.size/\s1 = { s with heap:=s.heap.push (iC w) }) ⟨rfl,rfl⟩) fun r s1 hr=>?_
 cases r with
 | error e=>exact hr
 | ok fl =>
  cases fl with
  | ret v =>
   obtain ⟨rfl,rfl⟩:=hr;have g1:(s.heap.push (iC w)).get? s.heap.objs.size = some (iC w):=Heap.get?_push_size _ rfl;have tS:Shared.TypeIs { s with heap:=s.heap.push (iC w) } (.ref s.heap.objs.size) "set":=⟨_,g1,rfl⟩;have m7:=F.called_set.init.lookup;have m8:=F.called_set.init.bind (.ref s.heap.objs.size)
   repeat (any_goals (first | assumption | wp_step))
   refine codeAny_mono (codeAny_call_builtin (R:=wants (fun r s2=>r = .none/\∃ h' tk,s2 = { s with heap:=h',toks:=tk }/\SetW kd h' s.heap.objs.size (onces ks)/\∀ b o,s.heap.get? b = some o->h'.get? b = some o) E) F.called_set.init.plain F.entry_set_init (check_set_init_1 tS ?_)) fun r2 s2 Uk=>?_
   ·obtain ⟨⟨c1,d1,a1,z1⟩,e1,c2,n1,d2⟩:=hl;simp only at c2 d2;subst c2 d2;have e2:(s.heap.push (iC w)).get? l = some { cls:=.type "list",dict:=d1,data:=.seq its n1,slots:=z1 }:=Heap.get?_push_of_some _ e1;have n2:=F.sub_list_set;have n3:=F.sub_list_frozenset;have n4:(Value.type "list" == Value.type "dict") = false:=by decide
    have l1:(s.heap.push (iC w)).IsList l its:=⟨_,e2,rfl,n1,rfl⟩;unfold Builtin.«set.__init__» noKeywords Builtin.Frozenset.updateFrom;generalize hp:pyIter = PI
    wp_walk
    subst hp;refine wpAny_pyIter_list l1 (wpAny_bind (wpAny_runValue ?_));have Y3:l < s.heap.objs.size:=Heap.lt_size e1;have zz:(s.heap.push (iC w)).objs.size = s.heap.objs.size + 1:=Heap.size_push _ _;refine DR (kd:=kd) (I:=(s.heap.push (iC w)).objs.size) (l:=l) (its:=its) (by simpa using hh) (by rw [zz];exact Nat.ne_of_lt (Nat.lt_succ_of_lt Y3)) (by rw [zz];exact Nat.ne_of_lt (Nat.lt_succ_self _)) (Nat.ne_of_gt Y3) hz hit hb ks.length 0 _ rfl (Nat.zero_le _) ⟨_,Heap.get?_push_size _ rfl,rfl,rfl⟩ (l1.push _) (AS (Heap.get?_push_of_some _ g1)) fun h' tk kp S=>?_
    show wpAny _ _ _ _ _ _;refine wpAny_pure (show wpAny _ _ (ret Value.none) _ _ _ from wpAny_pure ⟨rfl,h',tk,rfl,S,fun b o e=>?_⟩)
    have:=Heap.lt_size e;exact kp b o (Nat.ne_of_lt this) (by rw [zz];exact Nat.ne_of_lt (Nat.lt_succ_of_lt this)) (Heap.get?_push_of_some _ (Heap.get?_push_of_some _ e))
   ·cases r2 with
    | error e=>exact Uk
    | ok fl2 =>
     cases fl2 with
     | ret r =>
      obtain ⟨rfl,h',tk,rfl,S,kp⟩:=Uk
      repeat (any_goals (first | assumption | wp_step))
      exact q _ _ S kp
     | _=>exact Uk.elim
  | _=>exact hr.elim
end
local macro_rules | `(term| type_of% $n:ident) => return Lean.mkIdent (Lean.mkPrivateNameCore `PySem.SetOps (`PySem ++ n.getId))
local macro_rules | `(tactic| delta $n:ident) => if Lean.isPrivateName n.getId then Lean.Macro.throwUnsupported else `(tactic| delta $(Lean.mkIdent (Lean.mkPrivateNameCore `PySem.SetOps (`PySem ++ n.getId))):ident)
def dr (es:SE) (t:SetTable):Bool:=(type_of% drawn) es t
def IsSI (h:Heap) (it:Addr) (first:Value) (i:Nat) (a:Addr) (n ep:Nat):Prop:=∃ o,h.get? it = some o/\o.cls = .type "set_iterator"/\o.data = .fields #[first,.int i 0,.ref a,.int n 0,.int ep 0]
end SW
namespace SW
open PySem PySem.Spec PySem.SetTable
local macro_rules | `(term| type_of% $n:ident) => return Lean.mkIdent (Lean.mkPrivateNameCore `PySem.SetOps (`PySem ++ n.getId))
local macro_rules | `(tactic| delta $n:ident) => if Lean.isPrivateName n.getId then Lean.Macro.throwUnsupported else `(tactic| delta $(Lean.mkIdent (Lean.mkPrivateNameCore `PySem.SetOps (`PySem ++ n.getId))):ident)
def SAt (w:World) (a:Addr) (es:SE) (ep:Nat) (t:SetTable) (ord:List Value) (first:Value) (i:Nat) (h:Heap):Prop :=
 (w.params.followText "set-order" = true/\(∃ j:Nat,first = .int j 0)/\ord = (pickOrder (w.params.setOrder a ep) es).toList.map (·.2)) \/
 (w.params.followText "set-order" = false/\dr es t = false/\t.led = true/\rp t.place/\(∃ j:Nat,first = .int j 0/\below t.place j = i)/\ord = es.toList.map (·.2)) \/
 (∃ (tp:Addr) (ps:List Nat),first = .ref tp/\h.get? tp = some { cls:=.type "tuple",data:=.seq (ps.map fun (i:Nat)=>Value.int i 0).toArray }/\ord.map some = ps.map fun p=>es[p]?.map (·.2))
end SW
namespace SW
open PySem PySem.Spec PySem.SetTable
local macro_rules | `(term| type_of% $n:ident) => return Lean.mkIdent (Lean.mkPrivateNameCore `PySem.SetOps (`PySem ++ n.getId))
local macro_rules | `(tactic| delta $n:ident) => if Lean.isPrivateName n.getId then Lean.Macro.throwUnsupported else `(tactic| delta $(Lean.mkIdent (Lean.mkPrivateNameCore `PySem.SetOps (`PySem ++ n.getId))):ident)
end SW
namespace SW
open PySem PySem.Spec PySem.SetTable
local macro_rules | `(term| type_of% $n:ident) => return Lean.mkIdent (Lean.mkPrivateNameCore `PySem.Builtin.List.Common (`PySem.Builtin.List ++ n.getId))
section
variable {prog:Program} {w:World} {A:Around} {E:Value->Shared->Prop} {s:Shared} {a it:Addr} {o:Obj} {es:SE} {ep:Nat} {t:SetTable} {ord:List Value}
theorem IsSI.at {h h':Heap} {first:Value} {i n:Nat} (x:IsSI h it first i a n ep) (e:∀ u,h.get? it = some u->h'.get? it = some u):IsSI h' it first i a n ep:=by
 obtain ⟨u,h1,r⟩:=x;exact ⟨u,e u h1,r⟩
theorem SAt.at {h h':Heap} {first:Value} {i:Nat} (x:SAt w a es ep t ord first i h) (e:∀ tp u,first = .ref tp->h.get? tp = some u->h'.get? tp = some u):SAt w a es ep t ord first i h':=by
 rcases x with x | x | ⟨tp,ps,e1,e2,e3⟩
 ·exact .inl x
 ·exact .inr (.inl x)
 ·exact .inr (.inr ⟨tp,ps,e1,e tp _ e1 e2,e3⟩)
end
end SW
namespace SW
open PySem PySem.Spec PySem.SetTable
local macro_rules | `(tactic| delta $n:ident) => if Lean.isPrivateName n.getId then Lean.Macro.throwUnsupported else `(tactic| delta $(Lean.mkIdent (Lean.mkPrivateNameCore `PySem.Builtin.List.Common (`PySem.Builtin.List ++ n.getId))):ident)
end SW
namespace SW
open PySem PySem.Spec PySem.SetTable
local macro_rules | `(tactic| delta $n:ident) => if Lean.isPrivateName n.getId then Lean.Macro.throwUnsupported else `(tactic| delta $(Lean.mkIdent (Lean.mkPrivateNameCore `PySem.Builtin.List.Common (`PySem.Builtin.List ++ n.getId))):ident)
local macro_rules | `(term| type_of% $n:ident) => return Lean.mkIdent (Lean.mkPrivateNameCore `PySem.Builtin.List.Common (`PySem.Builtin.List ++ n.getId))
end SW
namespace L2
open PySem PySem.Spec PyProof.Rows
section
variable {X:Cx} {K:W.Frag} {σ:St} {H:Hp} {Q:VK} {pins:List (Addr × Obj)} {s:Shared}
abbrev Du (X:Cx) (a:Addr) (ks:List Str):Heap->Prop:=fun h=>SW.SetW (PySem.strKind X.prog X.w) h a ks
def Gu (X:Cx):List V->Hp->VK->Prop:=fun xs H Q=>∃ (p:Addr) (ns:List Str),xs = [.ref p]/\SqL X.K H p (ns.map V.str)/\ns.length < 4000/\∀ l H1,H l = none->Same H H1->H1 l = some (.ext (Du X l (SW.onces ns)))->Q (.ref l) H1
theorem JO (hc:X.calm = true:=by rfl):cN X (.type "set") (Gu X):=by
 intro pins s σ H xs us Q I r h;obtain ⟨p,ns,rfl,hp,hl,q⟩:=h;obtain ⟨u,rfl,ru⟩:=vals1 r
 cases (show u = Value.ref p from ru)
 obtain ⟨its,r',pl,_⟩:=I.list hp;have kQ:its.length = ns.length:=by rw [r'.len,List.length_map]
 refine SW.sw_set (kd:=PySem.strKind X.prog X.w) (its:=its.toArray) (ks:=ns) (I.ok.hd hc) pl.isList (by rw [List.size_toArray,kQ]) (fun i v hv=>?_) (by unfold scanBound;omega) fun h' tk S kp=>?_
 ·rw [List.getElem?_toArray] at hv;have hi:i < ns.length:=by rw [<- kQ];exact (List.getElem?_eq_some_iff.mp hv).1
  obtain ⟨u,hu,ru⟩:=r'.get (show (ns.map V.str)[i]? = some (V.str ns[i]) by rw [List.getElem?_map,List.getElem?_eq_getElem hi];rfl);rw [hv] at hu
  cases hu
  obtain ⟨t,rfl⟩:=ru;exact ⟨ns[i],List.getElem?_eq_getElem hi,by show Value.isStrOf ns[i] (.str ns[i] t) = true;simp [Value.isStrOf],rfl⟩
 ·have ho:∃ o,h'.get? s.heap.objs.size = some o:=by obtain ⟨o,_,_,_,_,e,_⟩:=S;exact ⟨o,e⟩
  refine ⟨.ref s.heap.objs.size,_,I.laid (o:=.ext (Du X s.heap.objs.size (SW.onces ns))) (t':=tk) kp (Nat.le_refl _) ⟨S,ho,fun h1 h2 z k=>z.kept k⟩,rfl,q _ _ I.fresh (aU I.fresh) aE⟩
theorem Ee {p:Addr} (ns:List Str) (h1:SqL X.K H p (ns.map V.str)) (h2:ns.length < 4000) (q:∀ l H1,H l = none->Same H H1->H1 l = some (.ext (Du X l (SW.onces ns)))->Q (.ref l) H1):Gu X [.ref p] H Q:=⟨p,ns,rfl,h1,h2,q⟩
end
section
variable {X:Cx} {σ:St} {H:Hp} {Q:VK}
def Gy (X:Cx):List V->Hp->VK->Prop:=fun xs H Q=>∃ (p:Addr) (ks:List Str),xs = [.ref p]/\H p = some (.ext (Du X p ks))/\Q (.int (ks.length:Nat)) H
theorem JQ:cN X (.builtin "len") (Gy X):=by
 intro pins s σ H xs us Q I r h;obtain ⟨p,ks,rfl,hp,q⟩:=h;obtain ⟨u,rfl,ru⟩:=vals1 r
 cases (show u = Value.ref p from ru)
 obtain ⟨o,es,ep,t,L,ho,hex,hd,l1,l2,l3,hb,hf,_,_⟩:=(show SW.SetW (PySem.strKind X.prog X.w) s.heap p ks from (I.hok p _ hp).1);have e:es.size = ks.length:=by rw [<- Array.length_toList,<- l1,List.length_map,<- l2.length_eq,List.length_map]
 refine call_len_set ho hex hd hf (by unfold scanBound at hb;omega) ⟨.int (es.size:Nat),H,I.tok _,⟨_,rfl⟩,?_⟩;rw [e];exact q
theorem Eg {p:Addr} (ks:List Str) (h1:H p = some (.ext (Du X p ks))) (q:Q (.int (ks.length:Nat)) H):Gy X [.ref p] H Q:=⟨p,ks,rfl,h1,q⟩
end
end L2
namespace L2
open PySem PySem.Spec PySem.W PyProof.Rows TS
end L2
namespace L2
open PySem PySem.Spec PyProof.Rows
theorem gg (k n:Nat):max (0:Int) (min (if (k:Int) < 0 then (k:Int) + (n:Int) else (k:Int)) (n:Int)) = ((min k n:Nat):Int):=by rw [if_neg (by omega)];omega
theorem CG (i j n:Nat):Builtin.Str.strSliceIndices (some (i:Int)) (some (j:Int)) 1 n = Builtin.Str.strSliceIndices (some ((min i n:Nat):Int)) (some ((min j n:Nat):Int)) 1 n:=by
 show sliceRange (max (0:Int) (min (if (i:Int) < 0 then (i:Int) + (n:Int) else (i:Int)) (n:Int))) (max (0:Int) (min (if (j:Int) < 0 then (j:Int) + (n:Int) else (j:Int)) (n:Int))) 1
  = sliceRange (max (0:Int) (min (if ((min i n:Nat):Int) < 0 then ((min i n:Nat):Int) + (n:Int) else ((min i n:Nat):Int)) (n:Int))) (max (0:Int) (min (if ((min j n:Nat):Int) < 0 then ((min j n:Nat):Int) + (n:Int) else ((min j n:Nat):Int)) (n:Int))) 1
 rw [gg,gg,gg,gg,Nat.min_assoc,Nat.min_assoc,Nat.min_self]
theorem y4 {z:Str} {i j:Nat} (h:i <= j):(Txt.slice z (some (i:Int)) (some (j:Int))).cps.toList = (z.cps.toList.drop i).take (j - i):=by
 have e:Txt.slice z (some (i:Int)) (some (j:Int)) = Txt.slice z (some ((min i z.length:Nat):Int)) (some ((min j z.length:Nat):Int)):=by
  unfold Txt.slice;rw [CG]
 rw [e,qr (by omega) (by omega),len_list]
 by_cases c:i <= z.cps.toList.length
 ·rw [Nat.min_eq_left c]
  by_cases d:j <= z.cps.toList.length
  ·rw [Nat.min_eq_left d]
  ·rw [Nat.min_eq_right (by omega),List.take_of_length_le (by rw [List.length_drop];omega),List.take_of_length_le (by rw [List.length_drop];omega)]
 ·rw [List.drop_eq_nil_of_le (show z.cps.toList.length <= i by omega),List.drop_eq_nil_of_le (show z.cps.toList.length <= min i z.cps.toList.length by omega),List.take_nil,List.take_nil]
theorem nG (z:Str) (j:Nat):(Txt.slice z none (some (j:Int))).cps.toList = z.cps.toList.take j:=by
 have e:Txt.slice z none (some (j:Int)) = Txt.slice z (some ((0:Nat):Int)) (some (j:Int)):=by
  unfold Txt.slice;rw [show Builtin.Str.strSliceIndices none (some (j:Int)) 1 z.length = Builtin.Str.strSliceIndices (some ((0:Nat):Int)) (some (j:Int)) 1 z.length from by
   show sliceRange 0 _ 1 = sliceRange (max (0:Int) (min (if ((0:Nat):Int) < 0 then ((0:Nat):Int) + (z.length:Int) else ((0:Nat):Int)) (z.length:Int))) _ 1
   rw [gg,Nat.zero_min]
   rfl]
 rw [e,y4 (Nat.zero_le j),List.drop_zero,Nat.sub_zero]
theorem nH (z:Str) (i:Nat):(Txt.slice z (some (i:Int)) none).cps.toList = z.cps.toList.drop i:=by
 have e:Txt.slice z (some (i:Int)) none = Txt.slice z (some ((min i z.length:Nat):Int)) none:=by
  unfold Txt.slice;rw [show Builtin.Str.strSliceIndices (some (i:Int)) none 1 z.length = Builtin.Str.strSliceIndices (some ((min i z.length:Nat):Int)) none 1 z.length from by
   show sliceRange (max (0:Int) (min (if (i:Int) < 0 then (i:Int) + (z.length:Int) else (i:Int)) (z.length:Int))) _ 1 = sliceRange (max (0:Int) (min (if ((min i z.length:Nat):Int) < 0 then ((min i z.length:Nat):Int) + (z.length:Int) else ((min i z.length:Nat):Int)) (z.length:Int))) _ 1
   rw [gg,gg,Nat.min_assoc,Nat.min_self]]
 rw [e,jT (by omega) (by omega),Int.toNat_natCast,len_list]
 by_cases c:i <= z.cps.toList.length
 ·rw [Nat.min_eq_left c]
 ·rw [List.drop_eq_nil_of_le (show z.cps.toList.length <= i by omega),List.drop_eq_nil_of_le (by omega)]
end L2
namespace L2
open PySem PySem.Spec PySem.W PyProof.Rows
variable {H H':Hp} {c f cc T:Addr} {P:Program} {w:World} {K:W.Frag} {mg:Str->Option Value} {base:Heap} {qual p g iq:Str} {params ip:Arguments} {scope sQ:Scope} {s:Shared} {v:V} {k:Nat} {pos j0:Pos} {X:Cx} {σ:St} {ib:List Stmt} {Q:VK}
def pK (name qual:Str) (params:Arguments) (body:List Stmt) (scope:Scope) (cl:List (Str × Addr)) (f c':Addr) (h:Heap):Prop:=∃ doc pm i0,h.get? f = some (fnMade name qual params body scope cl doc pm c' i0)
def xR (v:V) (c:Addr) (h:Heap):Prop:=∃ u,RelV v u/\h.IsCell c (some u)
def del (H:Hp) (c:Addr):Hp:=fun b=>if b = c then none else H b
theorem oR:del H c c = none:=if_pos rfl
theorem lN {b:Addr} (h:b ≠ c):del H c b = H b:=if_neg h
theorem oQ {b:Addr} {o:HO} (h:del H c b = some o):b ≠ c/\H b = some o:=by
 unfold del at h
 split at h
 ·cases h
 ·exact ⟨by assumption,h⟩
def Ob (P:Program) (w:World) (K:W.Frag) (mg:Str->Option Value) (base:Heap) (N:List Str) (qual:Str) (scope:Scope) (f:Addr) (cd:Value) (cl:List (Str × Addr)) (A:Around) (outer:List Env) (s:Shared) (H:Hp):Cx where
 prog:=P
 w:=w
 K:=K
 mg:=mg
 base:=base
 A:=A.deeper (envX qual scope s.heap.objs.size f cd cl)
 N:=N
 s₀:=s
 H₀:=H
 env:=envX qual scope s.heap.objs.size f cd cl
 outer:=outer
 stack:=envX qual scope s.heap.objs.size f cd cl :: outer
 ex:=[]
 calm:=true
 fn:=fun _=>false
 pn:=[]
 xe:=fun _ _=>False
structure pJ (N ps:List Str) (p:Str) (ip:Nat) (sc:Scope):Prop where
 kind:sc.kind = .function
 co:sc.isCoroutine = false
 gen:sc.isGenerator = false
 nd:N.Nodup
 pre:N.take ps.length = ps
 par:∀ x ∈ ps,sc.names.lookup x = some .local
 nocell:∀ y ∈ sc.names,y.2 ≠ .cell
 isfree:sc.names.lookup p = some .free
 free:∀ y ∈ sc.names,y.2 = .free->y.1 = p
 at_:N[ip]? = some p
 behind:ps.length <= ip
section
theorem Fp {h:Heap} {P':Heap->Prop} (x:HOk P w H h) (e:H c = some (.ext P')):HOk P w (del H c) h:=fun a o q=>by
 obtain ⟨n,q⟩:=oQ q;exact (x a o q).stay (fun b u _ r=>r) (fun b r=>by rw [lN (fun z=>by rw [z,e] at r;cases r)];exact r) fun b xs r=>by rw [lN (fun z=>by rw [z,e] at r;cases r)];exact r
theorem tG {x:Str} {u:Value}:∀ {ps:List Str} {us:List Value} {i:Nat},ps.Nodup->ps[i]? = some x->us[i]? = some u->(ps.zip us).reverse.lookup x = some u
 | [],us,i,_,h,_=>by simp at h
 | q :: ps,[],i,_,_,h=>by simp at h
 | q :: ps,v :: us,0,nd,h1,h2=>by
  simp at h1 h2;subst h1 h2;rw [List.nodup_cons] at nd;rw [List.zip_cons_cons,List.reverse_cons,List.lookup_append];have e:(ps.zip us).reverse.lookup q = none:=by
   rw [List.lookup_eq_none_iff];intro y hy;have:=(List.of_mem_zip (List.mem_reverse.mp hy)).1;have hne:q ≠ y.1:=fun z=>nd.1 (z ▸ this)
   simpa using hne
  rw [e];simp
 | q :: ps,v :: us,i + 1,nd,h1,h2=>by
  rw [List.nodup_cons] at nd;rw [List.zip_cons_cons,List.reverse_cons,List.lookup_append,tG (i:=i) nd.2 (by simpa using h1) (by simpa using h2)]
  rfl
theorem FF {name : Str} {body : List Stmt} {N ps : List Str} {ip : Nat} {c' : Addr} {A : Around} {outer : List Env} {us : List Value} {vs : List V} {Q : V -> Prop}
    (S:pJ N ps p ip scope) (hr:Room (k + 1) A) (e0:qb P w K mg base A outer s H) (hf:H f = some (.ext (pK name qual params body scope [(p,cc)] f c'))) (hc:H c' = some (.ext (gp qual c'))) (qO:H cc = some (.ext (xR v cc)))
    (hb:∀ doc pm i0,bindArgs (fnX name qual params body scope [(p,cc)] .none .none doc pm none (.ref c') i0) ⟨us,[]⟩ = pure (ps.zip us)) (hl:vs.length = ps.length) (r:Vals vs us)
    (fZ:Room k (A.deeper (envX qual scope s.heap.objs.size f (.ref c') [(p,cc)]))->∃ t,Aw (Ob P w K mg base N qual scope f (.ref c') [(p,cc)] A outer s (del H cc)) body t /\
     t { nx:=fun _ _=>False,rt:=fun v' H'=>H' = del H cc/\Q v' } ((start N vs).set ip (some v)) (del H cc)) :
    wpAny (model P w) A (call (.ref f) us) (CE outer P w H s fun v' H'=>H' = H/\Q v') (fun _ _=>False) s:=by
 obtain ⟨doc,pm,i0,gf⟩:=(e0.hok f _ hf).1;have Mg:s.heap.CodeRec (.ref c') qual:=(e0.hok c' _ hc).1;obtain ⟨uc,YS,oc,UX,GR⟩:=(e0.hok cc _ qO).1;have lim:s.heap.NoLimit:=e0.mod.nolimit.keeps fun b o e=>(e0.bs b o e).1
 refine wpAny_call (codeAny_call_function hr.depth gf rfl S.co S.gen rfl Mg ?_);rw [hb];refine wpAny_pure (wpAny_newFunctionEnv S.nocell (fun y hy=>S.par y.1 (List.of_mem_zip hy).1) (fun h' hn NY=>?_) S.kind)
 have kp:∀ b o,s.heap.get? b = some o->h'.get? b = some o:=fun b o e=>by
  rw [NY.2 b (Nat.ne_of_lt (Heap.lt_size e))];exact Heap.get?_push_of_some _ e
 refine ⟨lim.keeps kp,codeAny_func ?_⟩;obtain ⟨t,ht,hq⟩:=fZ (hr.deeper _);have fr:del H cc s.heap.objs.size = none:=by
  by_cases z:s.heap.objs.size = cc
  ·rw [z];exact oR
  ·rw [lN z];exact e0.hok.fresh (Nat.le_refl _)
 have NT:∀ x c,([(p,cc)]:List (Str × Addr)).lookup x = some c->x = p/\c = cc:=fun x c e=>by
  rw [List.lookup_cons] at e
  by_cases z:x = p
  ·subst z;simp at e;exact ⟨rfl,e.symm⟩
  ·rw [beq_eq_false_iff_ne.mpr z] at e;simp at e
 have Y4:([(p,cc)]:List (Str × Addr)).lookup p = some cc:=by simp
 have qL:ps.length <= N.length:=by have:=congrArg List.length S.pre;rw [List.length_take] at this;omega
 have NS:ps.Nodup:=by rw [<- S.pre];exact S.nd.sublist (List.take_sublist _ _)
 have hu:us.length = ps.length:=by rw [<- r.length,hl]
 have I:Inv (Ob P w K mg base N qual scope f (.ref c') [(p,cc)] A outer s (del H cc)) [] ((start N vs).set ip (some v)) (del H cc) { s with heap:=h',toks:=s.toks + (ps.zip us).length }:=by
  have bs:∀ b o,base.get? b = some o->s.heap.get? b = some o/\del H cc b = none:=fun b o e=>by
   obtain ⟨q1,q2⟩:=e0.bs b o e;refine ⟨q1,?_⟩;unfold del
   split
   ·rfl
   ·exact q2
  have frf:∀ b ∈ tE outer,del H cc b = none:=fun b hb=>by
   unfold del
   split
   ·rfl
   ·exact e0.frf b hb
  have noex:∀ b:Addr,b ∉ ([]:List Addr):=fun b z=>by cases z
  refine ⟨⟨e0.mod,S.kind,rfl,rfl,Nat.le_refl _,fun x y c h1 h2=>?_,fun x hx=>?_,fun x c hx _=>?_,fun _=>hr.hd,Around.frames_deeper e0.frames,.inr ⟨rfl,rfl⟩,fun b z=>absurd z (noex b),bs,e0.bsz,fun b _ _=>noex b,fun b z=>absurd z (noex b),e0.funs,frf⟩,
   rfl,e0.bare,Un.kept kp,⟨_,hn,fun i x u h1 h2 h3=>?_⟩,fun x c h=>?_,fr,fun x c h=>?_,fun q hq=>absurd hq (by simp [Ob]),(Fp e0.hok qO).kept kp,?_⟩
  ·rw [(NT x c h1).1,(NT y c h2).1]
  ·rcases hx with hx | hx
   ·exact absurd rfl (S.nocell _ (PySem.mem_of_lookup hx))
   ·have e:x = p:=S.free _ (PySem.mem_of_lookup hx) rfl;exact ⟨cc,by rw [e];exact Y4⟩
  ·cases hx
  ·by_cases z:i = ip
   ·subst z;have ex:x = p:=by
     have jC:N[i]? = some x:=h1;rw [S.at_] at jC;exact (Option.some.inj jC).symm
    have kQ:i < (start N vs).length:=by
     unfold start;rw [List.length_append,List.length_map,List.length_replicate];have:=(List.getElem?_eq_some_iff.mp S.at_).1;omega
    rw [List.getElem?_set_self kQ] at h2
    cases h2
    exact ⟨uc,YS,.inr ⟨.inr (by rw [ex];exact S.isfree),cc,by rw [ex];exact Y4,oc,kp _ _ UX,GR⟩⟩
   ·rw [List.getElem?_set_ne (Ne.symm z)] at h2;have hi:i < vs.length:=by
     unfold start at h2
     by_cases hi:i < vs.length
     ·exact hi
     ·rw [List.getElem?_append_right (by simpa using hi),List.getElem?_replicate] at h2
      split at h2 <;> cases h2
    have ha:vs[i]? = some u:=by
     unfold start at h2;rw [List.getElem?_append_left (by simpa using hi),List.getElem?_map] at h2
     cases e:vs[i]? with
     | none=>rw [e] at h2;cases h2
     | some a=>rw [e] at h2;cases h2;rfl
    obtain ⟨u',hu',rv⟩:=r.get ha;have vi:ps[i]? = some x:=by
     rw [<- S.pre,List.getElem?_take_of_lt (by omega)];exact h1
    exact ⟨u',rv,.inl ⟨S.par x (List.mem_of_getElem? vi),tG NS vi hu'⟩⟩
  ·rw [(NT x c h).2];exact ⟨_,oc,kp _ _ UX,GR⟩
  ·rw [(NT x c h).2];exact oR
  ·rw [List.length_set];unfold start;show _ = N.length;rw [List.length_append,List.length_map,List.length_replicate];omega
 refine wpAny_mono (ht.h [] _ _ _ _ I hq) (fun fl s' hs=>?_) fun e s' hs=>hs.elim
 cases fl with
 | ret u =>
  obtain ⟨v',σ',H',J,rv,rfl,q⟩:=hs;have un:Un (tE outer) [] (del H cc) (del H cc) s.heap s'.heap:=J.base;have nb:cc ∉ tE outer:=fun z=>by rw [e0.frf cc z] at qO;cases qO
  have Mn:=un.keep cc oc UX oR nb (by simp);refine ⟨v',H,J.os,J.bare,⟨fun b o q1 q2 q3 q4=>un.keep b o q1 (by rw [lN (fun z=>by rw [z,qO] at q2;cases q2)];exact q2) q3 q4,fun b o q1 q2 q3 q4=>un.slot b o q1 (by rw [lN (fun z=>by rw [z,qO] at q2;cases q2)];exact q2) q3 q4,fun _ _ _ n _=>n,un.there,fun _ _ q=>q,fun _ _ _ q=>q,fun b ps q=>⟨#[],by rw [q];simp⟩⟩,fun a o q=>?_,rv,rfl,q⟩
  by_cases z:a = cc
  ·subst z;rw [qO] at q
   cases q
   refine ⟨⟨uc,YS,oc,Mn,GR⟩,⟨oc,Mn⟩,fun h1 h2 x k=>?_⟩
   obtain ⟨u1,a1,o1,a2,a3⟩:=x;exact ⟨u1,a1,o1,k _ a2,a3⟩
  ·have:=J.hok a o (by rw [lN z];exact q);exact this.stay (fun b u _ r=>r) (fun b r=>(oQ r).2) fun b xs r=>(oQ r).2
 | next =>
  obtain ⟨_,_,_,q⟩:=hs;exact q.elim
 | brk =>
  obtain ⟨_,_,_,q⟩:=hs;exact q.elim
 | cont =>
  obtain ⟨_,_,_,q⟩:=hs;exact q.elim
end
def SameB (T:Addr) (H H':Hp):Prop:=∀ b o,H b = some o->b ≠ T->H' b = some o
theorem SameB.of (s:Same H H'):SameB T H H':=fun b o e _=>s b o e
theorem SameB.refl:SameB T H H:=fun _ _ e _=>e
theorem SameB.trans {H1 H2:Hp} (a:SameB T H H1) (b:SameB T H1 H2):SameB T H H2:=fun c o e n=>b c o (a c o e n) n
theorem SameB.toN {ps:Array Value} (s:SameB T H H') (h:H T = some (.tbl ps)):SameN H H':=fun b o e n=>s b o e fun z=>by rw [z,h] at e;cases e;exact n _ rfl
theorem TabOk.tbl {P:Addr} (h:TabOk P pos qual H):∃ ps,H P = some (.tbl ps):=let ⟨ps,a,_⟩:=h;⟨ps,a⟩
theorem TabOk.sameB {P:Addr} (h:TabOk P pos qual H) (s:SameB T H H') (n:P ≠ T) (hT:∃ ps,H T = some (.tbl ps)):TabOk P pos qual H':=by
 obtain ⟨ps,h1,h2,h3⟩:=h;obtain ⟨qs,hT⟩:=hT;exact ⟨ps,s _ _ h1 n,h2,h3.imp id fun ⟨c',a,b⟩=>⟨c',a,s _ _ b fun z=>by rw [z,hT] at b;cases b⟩⟩
section
variable {body:Expr} {P:Addr}
def KH (qual:Str) (P:Addr) (params:Arguments) (body:Expr) (scope:Scope) (pos:Pos):TE:=fun _ H Q=>∃ ps,H P = some (.tbl ps)/\TriplesOk ps.toList/\codeAmong pos ps.toList = none /\
 ∀ f c' H' DE,H f = none->H c' = none->SameB P H H'->(DE = ps ++ #[rawInt ↑pos.line,rawInt ↑pos.col,Value.ref c']/\H' P = some (.tbl DE))->H' f = some (.ext (vW (qual ++ Str.ofString "<lambda>") params body scope f c'))->H' c' = some (.ext (gp (qual ++ Str.ofString "<lambda>") c'))->Q (.ref f) H'
theorem EK (j5 : X.env.code = .ref c) (hC : CodeHd X.base c P) (hB : X.base.BuiltinsAt X.mg P) (hd : defaultsOf params X.env = ([], []) := by rfl) (hc : closureFor scope X.env = pure [] := by rfl) (hg : X.env.globals = mainGlobals := by rfl) :
    PE X (.Lambda params body scope pos) (KH X.env.qual P params body scope pos):=by
 intro pins s σ H Q I h;obtain ⟨ps,hP,ht,hn,q⟩:=h;have yx:s.heap.get? P = some (tabObj ps):=I.hok P _ hP;have xC:s.heap.Ns mainGlobals X.mg:=by
  obtain ⟨o,es,ep,e,r⟩:=I.mod.glob;exact ⟨o,es,ep,I.bk _ _ e,r⟩
 have hne:mainGlobals ≠ P:=fun z=>by
  obtain ⟨o,es,ep,e,d,r⟩:=I.mod.glob;have:=(I.bs _ _ e).2;rw [z,hP] at this
  cases this
 refine kla_eval hd (kla_makeFunction hc hg xC j5 (hC.keeps I.bk) yx ht hn hne (hB.keeps I.bk) fun c' i0 h' tk xb l1 l2 cr gP=>?_)
 have fc:H c' = none:=I.hok.fresh l1;have l3:s.heap.objs.size <= h'.objs.size:=Nat.le_trans l1 (Nat.le_of_lt l2);have ff:H h'.objs.size = none:=I.hok.fresh l3;have n1:c' ≠ h'.objs.size:=Nat.ne_of_lt l2;have pc:P ≠ c':=fun z=>by rw [z,fc] at hP;cases hP
 have pf:P ≠ h'.objs.size:=fun z=>by rw [z,ff] at hP;cases hP
 generalize Jt:ps ++ #[rawInt ↑pos.line,rawInt ↑pos.col,Value.ref c'] = DE at gP;generalize ho:kla_obj (Str.ofString "<lambda>") (X.env.qual ++ Str.ofString "<lambda>") params body scope [] ((X.mg (Str.ofString "__name__")).getD Value.none) c' i0 = ob;have gf:(h'.push ob).get? h'.objs.size = some ob:=Heap.get?_push_size _ (by rw [<- ho];rfl);let H':Hp:=upd (upd (upd H P (.tbl DE)) c' (.ext (gp (X.env.qual ++ Str.ofString "<lambda>") c'))) h'.objs.size (.ext (vW (X.env.qual ++ Str.ofString "<lambda>") params body scope h'.objs.size c'))
 have eP:H' P = some (.tbl DE):=by show upd _ _ _ _ = _;rw [aD pf,aD pc,aE]
 have ec:H' c' = some (.ext (gp (X.env.qual ++ Str.ofString "<lambda>") c')):=by show upd _ _ _ _ = _;rw [aD n1,aE]
 have ef:H' h'.objs.size = some (.ext (vW (X.env.qual ++ Str.ofString "<lambda>") params body scope h'.objs.size c')):=aE;have eo:∀ b,b ≠ P->b ≠ c'->b ≠ h'.objs.size->H' b = H b:=fun b a1 a2 a3=>by show upd _ _ _ _ = _;rw [aD a3,aD a2,aD a1]
 have ek:∀ b o,H b = some o->b ≠ P->H' b = some o:=fun b o e a1=>by
  rw [eo b a1 (fun z=>by rw [z,fc] at e;cases e) (fun z=>by rw [z,ff] at e;cases e)];exact e
 have kp:∀ b o,b ≠ P->s.heap.get? b = some o->(h'.push ob).get? b = some o:=fun b o a e=>Heap.get?_push_of_some _ (xb b o a e)
 have un:Un X.fs [] H H' s.heap (h'.push ob):=by
  refine ⟨fun b o e n _ _=>kp b o (fun z=>by rw [z,hP] at n;cases n) e,fun b o e n _ _=>⟨o.slots,kp b o (fun z=>by rw [z,hP] at n;cases n) e⟩,fun b o e n _=>?_,fun b o e _=>?_,fun b xs e=>ek b _ e (fun z=>by rw [z,hP] at e;cases e),fun b o u e=>ek b _ e (fun z=>by rw [z,hP] at e;cases e),fun b qs e=>?_⟩
  ·have lb:=Heap.lt_size e;rw [eo b (fun z=>by rw [z,hP] at n;cases n) (Nat.ne_of_lt (Nat.lt_of_lt_of_le lb l1)) (Nat.ne_of_lt (Nat.lt_of_lt_of_le lb l3))]
   exact n
  ·by_cases z:b = P
   ·exact ⟨_,by rw [z];exact Heap.get?_push_of_some _ gP⟩
   ·exact ⟨o,kp b o z e⟩
  ·by_cases z:b = P
   ·rw [z,hP] at e
    cases e
    exact ⟨#[rawInt ↑pos.line,rawInt ↑pos.col,Value.ref c'],by rw [z,eP,Jt]⟩
   ·exact ⟨#[],by rw [ek b _ e z,Array.append_empty]⟩
 have hok:HOk X.prog X.w H' (h'.push ob):=fun b o e=>by
  by_cases z1:b = h'.objs.size
  ·rw [z1,ef] at e
   cases e
   rw [z1];refine ⟨⟨_,_,by rw [ho];exact gf⟩,⟨_,gf⟩,fun h1 h2 x k=>?_⟩
   obtain ⟨pm,i0,e⟩:=x;exact ⟨pm,i0,k _ e⟩
  by_cases z2:b = c'
  ·rw [z2,ec] at e
   cases e
   rw [z2];obtain ⟨c0,o,vs,t,e1,e2,e3,e4⟩:=cr
   cases e1
   refine ⟨⟨c',o,vs,t,rfl,Heap.get?_push_of_some _ e2,e3,e4⟩,⟨o,Heap.get?_push_of_some _ e2⟩,fun h1 h2 x k=>?_⟩
   obtain ⟨c0,o,vs,t,e1,e2,e3,e4⟩:=x
   cases e1
   exact ⟨c',o,vs,t,rfl,k _ e2,e3,e4⟩
  by_cases z3:b = P
  ·rw [z3,eP] at e
   cases e
   rw [z3];exact Heap.get?_push_of_some _ gP
  ·rw [eo b z3 z2 z1] at e;refine (I.hok b o e).stay (fun c v hc r=>kp c v (fun z=>?_) r) (fun c r=>ek c _ r (fun z=>by rw [z,hP] at r;cases r)) fun c xs r=>ek c _ r (fun z=>by rw [z,hP] at r;cases r)
   rcases hc with hc | hc
   ·exact z3 (hc.symm.trans z)
   ·rw [z,hP] at hc;cases hc
 exact ⟨.ref h'.objs.size,H',I.un un hok,rfl,q _ c' H' DE ff fc ek ⟨Jt.symm,eP⟩ ef ec⟩
def FW (qual:Str) (P:Addr) (params:Arguments) (body:Expr) (scope:Scope) (pos:Pos):TE:=fun _ H Q=>TabOk P pos (qual ++ Str.ofString "<lambda>") H /\
 ∀ f c' H',H f = none->SameB P H H'->TabOk P pos (qual ++ Str.ofString "<lambda>") H'->H' f = some (.ext (vW (qual ++ Str.ofString "<lambda>") params body scope f c'))->H' c' = some (.ext (gp (qual ++ Str.ofString "<lambda>") c'))->Q (.ref f) H'
theorem EJ (j5 : X.env.code = .ref c) (hC : CodeHd X.base c P) (hB : X.base.BuiltinsAt X.mg P) (hd : defaultsOf params X.env = ([], []) := by rfl) (hc : closureFor scope X.env = pure [] := by rfl) (hg : X.env.globals = mainGlobals := by rfl) :
    PE X (.Lambda params body scope pos) (FW X.env.qual P params body scope pos):=by
 intro pins s σ H Q I h;obtain ⟨⟨ps,hP,ht,hm⟩,q⟩:=h
 rcases hm with hm | ⟨c',hm,zV⟩
 ·refine EK j5 hC hB hd hc hg pins s σ H Q I ⟨ps,hP,ht,hm,fun f c' H' DE a1 a2 a3 a4 a5 a6=>?_⟩;obtain ⟨rfl,a4⟩:=a4;exact q f c' H' a1 a3 ⟨_,a4,by rw [Array.toList_append];exact TriplesOk_snoc _ _ _ _ ht,.inr ⟨c',by rw [Array.toList_append];exact codeAmong_snoc _ ht hm,a6⟩⟩ a5 a6
 ·have yx:s.heap.get? P = some (tabObj ps):=I.hok P _ hP;have xC:s.heap.Ns mainGlobals X.mg:=by
   obtain ⟨o,es,ep,e,r⟩:=I.mod.glob;exact ⟨o,es,ep,I.bk _ _ e,r⟩
  refine kla_eval hd (Fd hc hg xC j5 (hC.keeps I.bk) yx ht hm (hB.keeps I.bk) fun i0=>?_)
  have ff:H s.heap.objs.size = none:=I.hok.fresh (Nat.le_refl _);have s1:=aU (o:=.ext (vW (X.env.qual ++ Str.ofString "<lambda>") params body scope s.heap.objs.size c')) ff;refine ⟨.ref s.heap.objs.size,_,I.laid (a:=s.heap.objs.size) (o:=.ext (vW (X.env.qual ++ Str.ofString "<lambda>") params body scope s.heap.objs.size c')) (t':=s.toks) (fun b u e=>Heap.get?_push_of_some _ e) (Nat.le_refl _) ?_,rfl,q _ c' _ ff (SameB.of s1) (TabOk.same ⟨ps,hP,ht,.inr ⟨c',hm,zV⟩⟩ s1) aE (s1 _ _ zV)⟩
  refine ⟨⟨_,_,Heap.get?_push_size _ rfl⟩,⟨_,Heap.get?_push_size _ rfl⟩,fun h1 h2 x k=>?_⟩
  obtain ⟨pm,i0,e⟩:=x;exact ⟨pm,i0,k _ e⟩
theorem JW (j5 : X.env.code = .ref c) (hC : CodeHd X.base c P) (hB : X.base.BuiltinsAt X.mg P) (hd : defaultsOf params X.env = ([], []) := by rfl) (hc : closureFor scope X.env = pure [] := by rfl) (hg : X.env.globals = mainGlobals := by rfl) :
    BE X (.Lambda params body scope pos) (FW X.env.qual P params body scope pos):=⟨EJ j5 hC hB hd hc hg⟩
end
def Gj (T:Addr) (j0:Pos) (g iq:Str) (ip:Arguments) (ib:List Stmt) (sQ:Scope) (p:Str):Sp:=fun vs H Q _=>∃ v,vs = [v]/\TabOk T j0 iq H/\∀ ff c' cc H1,H ff = none->H cc = none->SameB T H H1->TabOk T j0 iq H1->H1 ff = some (.ext (pK g iq ip ib sQ [(p,cc)] ff c'))->H1 c' = some (.ext (gp iq c'))->H1 cc = some (.ext (xR v cc))->Q (.ref ff) H1
section
variable {pins:List (Addr × Obj)}
theorem C8 {cl : List (Str × Addr)} {fl : Nat} {E : Value -> Shared -> Prop} {Q : Value -> Shared -> Prop} (I : Inv X pins σ H s) (qM : closureFor sQ X.env = pure cl) (j5 : X.env.code = .ref c) (hC : CodeHd X.base c T) (hB : X.base.BuiltinsAt X.mg T) (ht : TabOk T j0 iq H)
    (q:∀ ff c' s1 H1,H ff = none->SameB T H H1->TabOk T j0 iq H1->H1 ff = some (.ext (pK g iq ip ib sQ cl ff c'))->H1 c' = some (.ext (gp iq c'))->Inv X pins σ H1 s1->Q (.ref ff) s1) :
    wpAny (model X.prog X.w) X.A (makeFunction g iq ip (.stmts ib) sQ X.env [] [] [] j0 fl) Q E s:=by
 obtain ⟨ps,hP,ht,hm⟩:=ht;have yx:s.heap.get? T = some (tabObj ps):=I.hok T _ hP;have xC:s.heap.Ns mainGlobals X.mg:=by
  obtain ⟨o,es,ep,e,r⟩:=I.mod.glob;exact ⟨o,es,ep,I.bk _ _ e,r⟩
 have hne:mainGlobals ≠ T:=fun z=>by
  obtain ⟨o,es,ep,e,d,r⟩:=I.mod.glob;have:=(I.bs _ _ e).2;rw [z,hP] at this
  cases this
 rcases hm with hm | ⟨c',hm,zV⟩
 ·refine makeFunction_K (mg:=X.mg) qM I.ok.glob xC j5 (hC.keeps I.bk) yx ht hm hne (hB.keeps I.bk) fun c' i0 doc h' tk xb l1 l2 cr gP=>?_
  have fc:H c' = none:=I.hok.fresh l1;have l3:s.heap.objs.size <= h'.objs.size:=Nat.le_trans l1 (Nat.le_of_lt l2);have ff:H h'.objs.size = none:=I.hok.fresh l3;have n1:c' ≠ h'.objs.size:=Nat.ne_of_lt l2;have pc:T ≠ c':=fun z=>by rw [z,fc] at hP;cases hP
  have pf:T ≠ h'.objs.size:=fun z=>by rw [z,ff] at hP;cases hP
  generalize Jt:ps ++ #[rawInt ↑j0.line,rawInt ↑j0.col,Value.ref c'] = DE at gP;generalize ho:fnMade g iq ip ib sQ cl doc ((X.mg (Str.ofString "__name__")).getD Value.none) c' i0 = ob;have gf:(h'.push ob).get? h'.objs.size = some ob:=Heap.get?_push_size _ (by rw [<- ho];rfl);let H':Hp:=upd (upd (upd H T (.tbl DE)) c' (.ext (gp iq c'))) h'.objs.size (.ext (pK g iq ip ib sQ cl h'.objs.size c'))
  have eP:H' T = some (.tbl DE):=by show upd _ _ _ _ = _;rw [aD pf,aD pc,aE]
  have ec:H' c' = some (.ext (gp iq c')):=by show upd _ _ _ _ = _;rw [aD n1,aE]
  have ef:H' h'.objs.size = some (.ext (pK g iq ip ib sQ cl h'.objs.size c')):=aE;have eo:∀ b,b ≠ T->b ≠ c'->b ≠ h'.objs.size->H' b = H b:=fun b a1 a2 a3=>by show upd _ _ _ _ = _;rw [aD a3,aD a2,aD a1]
  have ek:∀ b o,H b = some o->b ≠ T->H' b = some o:=fun b o e a1=>by
   rw [eo b a1 (fun z=>by rw [z,fc] at e;cases e) (fun z=>by rw [z,ff] at e;cases e)];exact e
  have kp:∀ b o,b ≠ T->s.heap.get? b = some o->(h'.push ob).get? b = some o:=fun b o a e=>Heap.get?_push_of_some _ (xb b o a e)
  have un:Un X.fs [] H H' s.heap (h'.push ob):=by
   refine ⟨fun b o e n _ _=>kp b o (fun z=>by rw [z,hP] at n;cases n) e,fun b o e n _ _=>⟨o.slots,kp b o (fun z=>by rw [z,hP] at n;cases n) e⟩,fun b o e n _=>?_,fun b o e _=>?_,fun b xs e=>ek b _ e (fun z=>by rw [z,hP] at e;cases e),fun b o u e=>ek b _ e (fun z=>by rw [z,hP] at e;cases e),fun b qs e=>?_⟩
   ·have lb:=Heap.lt_size e;rw [eo b (fun z=>by rw [z,hP] at n;cases n) (Nat.ne_of_lt (Nat.lt_of_lt_of_le lb l1)) (Nat.ne_of_lt (Nat.lt_of_lt_of_le lb l3))]
    exact n
   ·by_cases z:b = T
    ·exact ⟨_,by rw [z];exact Heap.get?_push_of_some _ gP⟩
    ·exact ⟨o,kp b o z e⟩
   ·by_cases z:b = T
    ·rw [z,hP] at e
     cases e
     exact ⟨#[rawInt ↑j0.line,rawInt ↑j0.col,Value.ref c'],by rw [z,eP,Jt]⟩
    ·exact ⟨#[],by rw [ek b _ e z,Array.append_empty]⟩
  have hok:HOk X.prog X.w H' (h'.push ob):=fun b o e=>by
   by_cases z1:b = h'.objs.size
   ·rw [z1,ef] at e
    cases e
    rw [z1];refine ⟨⟨_,_,_,by rw [ho];exact gf⟩,⟨_,gf⟩,fun h1 h2 x k=>?_⟩
    obtain ⟨dc,pm,i0,e⟩:=x;exact ⟨dc,pm,i0,k _ e⟩
   by_cases z2:b = c'
   ·rw [z2,ec] at e
    cases e
    rw [z2];obtain ⟨c0,o,vs,t,e1,e2,e3,e4⟩:=cr
    cases e1
    refine ⟨⟨c',o,vs,t,rfl,Heap.get?_push_of_some _ e2,e3,e4⟩,⟨o,Heap.get?_push_of_some _ e2⟩,fun h1 h2 x k=>?_⟩
    obtain ⟨c0,o,vs,t,e1,e2,e3,e4⟩:=x
    cases e1
    exact ⟨c',o,vs,t,rfl,k _ e2,e3,e4⟩
   by_cases z3:b = T
   ·rw [z3,eP] at e
    cases e
    rw [z3];exact Heap.get?_push_of_some _ gP
   ·rw [eo b z3 z2 z1] at e;refine (I.hok b o e).stay (fun c v hc r=>kp c v (fun z=>?_) r) (fun c r=>ek c _ r (fun z=>by rw [z,hP] at r;cases r)) fun c xs r=>ek c _ r (fun z=>by rw [z,hP] at r;cases r)
    rcases hc with hc | hc
    ·exact z3 (hc.symm.trans z)
    ·rw [z,hP] at hc;cases hc
  refine q h'.objs.size c' _ H' ff ek ⟨_,eP,?_,.inr ⟨c',?_,ec⟩⟩ ef ec (I.un un hok)
  ·rw [<- Jt,Array.toList_append];exact TriplesOk_snoc _ _ _ _ ht
  ·rw [<- Jt,Array.toList_append];exact codeAmong_snoc _ ht hm
 ·refine makeFunction_hit (mg:=X.mg) qM I.ok.glob xC j5 (hC.keeps I.bk) yx ht hm (hB.keeps I.bk) fun i0 doc h' tk kp l3=>?_
  have ff:H h'.objs.size = none:=I.hok.fresh l3;have s1:=aU (o:=.ext (pK g iq ip ib sQ cl h'.objs.size c')) ff;refine q h'.objs.size c' _ _ ff (SameB.of s1) (TabOk.same ⟨ps,hP,ht,.inr ⟨c',hm,zV⟩⟩ s1) aE (s1 _ _ zV) (I.laid (a:=h'.objs.size) (o:=.ext (pK g iq ip ib sQ cl h'.objs.size c')) (t':=tk) (fun b u e=>Heap.get?_push_of_some _ (kp b u e)) l3 ?_)
  refine ⟨⟨_,_,_,Heap.get?_push_size _ rfl⟩,⟨_,Heap.get?_push_size _ rfl⟩,fun h1 h2 x k=>?_⟩
  obtain ⟨dc,pm,i0,e⟩:=x;exact ⟨dc,pm,i0,k _ e⟩
end
section
theorem C9 {st : Stmt} {np rpos : Pos} {A : Around} {outer : List Env} {s1 : Shared} {E : XK} {bq : Value} (LS : (ae st).names.lookup p = some .cell) (xC : (ae st).names.lookup g = some .local) (hpg : p ≠ g)
    (hb:ao st = [.FunctionDef g ip ib [] none [] sQ none g j0,.Return (some (.Name g np)) rpos]) (DI:ip.defaults = []) (GU:ip.kw_defaults = []) (ha:∀ env,annTrees ip none env = []) (qM:∀ env cc,env.cells.lookup p = some cc->closureFor sQ env = pure [(p,cc)])
    (hq:∀ L cd,qualnameIn (envOfC qual (ae st) L f cd) g g = iq) (UC:(g == ("__debug__":Str)) = false) (JC:bq = .ref c) (hC:CodeHd base c T) (hB:base.BuiltinsAt mg T)
    (e0:qb P w K mg base A outer s H) (qO:(cellsFrom (s.heap.objs.size + 1) (ae st).names []).lookup p = some cc) (above:s.heap.objs.size < cc) (I:Inv (hX cy P w K mg base [p,g] qual (ae st) f bq A outer s H E) [] (start [p,g] [v]) H s1) (ht:TabOk T j0 iq H)
    (q:∀ ff c' cc H1,H ff = none->H cc = none->SameB T H H1->TabOk T j0 iq H1->H1 ff = some (.ext (pK g iq ip ib sQ [(p,cc)] ff c'))->H1 c' = some (.ext (gp iq c'))->H1 cc = some (.ext (xR v cc))->Q (.ref ff) H1) :
    wpAny (model P w) (A.deeper (envOfC qual (ae st) s.heap.objs.size f bq)) (execs (ao st) (envOfC qual (ae st) s.heap.objs.size f bq)) (fun fl s'=>∃ u,fl = .ret u/\CE outer P w H s Q u s') (fun _ _=>False) s1:=by
 rw [hb];refine wpAny_execs_cons (nestDef_K DI GU (ha _) ?_);rw [hq];refine C8 (X:=hX cy P w K mg base [p,g] qual (ae st) f bq A outer s H E) I (qM _ cc qO) JC hC hB ht fun ff c' s2 H2 h1 h2 h3 h4 h5 I2=>?_
 refine iK I2 (i:=1) (x:=g) (v:=.ref ff) (by simpa [hX] using hpg) rfl (.inl xC) rfl (fun s3 I3=>?_) (.inr xC);refine wpAny_execs_cons ?_;obtain ⟨m,hn,hl⟩:=I3.loc;obtain ⟨u,ru,lu⟩:=hl 1 g (.ref ff) rfl rfl (.inl xC);obtain ⟨u0,ru0,lu0⟩:=hl 0 p v rfl rfl (.inr (.inl LS))
 cases (show u = Value.ref ff from ru)
 have lg:m g = some (.ref ff):=by
  rcases lu with ⟨_,hm⟩ | ⟨hk,_⟩
  ·exact hm
  ·rcases hk with hk | hk
   ·rw [show (hX cy P w K mg base [p,g] qual (ae st) f bq A outer s H E).env.kindOf g = some .local from xC] at hk;cases hk
   ·rw [show (hX cy P w K mg base [p,g] qual (ae st) f bq A outer s H E).env.kindOf g = some .local from xC] at hk;cases hk
 have lc:s3.heap.IsCell cc (some u0):=by
  rcases lu0 with ⟨hk,_⟩ | ⟨_,c2,yy,qN⟩
  ·rw [show (hX cy P w K mg base [p,g] qual (ae st) f bq A outer s H E).env.kindOf p = some .cell from LS] at hk;cases hk
  ·have Mh:(cellsFrom (s.heap.objs.size + 1) (ae st).names []).lookup p = some c2:=yy;rw [qO] at Mh
   cases Mh
   exact qN
 refine wpAny_Return_some (wpAny_Name (wpAny_loadName_local I3.ok.kind xC hn lg ?_) UC);have hcH:H cc = none:=e0.hok.fresh (Nat.le_of_lt above);have yy:H2 cc = none:=I2.freeC p cc qO;have un:Un (tE outer) [] H H2 s.heap s3.heap:=I3.base;obtain ⟨oc,ZC,GR⟩:=lc;have D':=aU (o:=.ext (xR v cc)) yy;refine ⟨.ref ff,rfl,.ref ff,upd H2 cc (.ext (xR v cc)),I3.os,I3.bare,⟨un.keep,un.slot,fun b o e n x=>?_,un.there,fun b xs e=>D' _ _ (un.tups b xs e),fun b o u e=>D' _ _ (un.frzs b o u e),fun b qs e=>?_⟩,fun a o e=>?_,rfl,?_⟩
 ·rw [aD (fun z=>by rw [z] at e;exact absurd (Heap.lt_size e) (Nat.lt_asymm above))]
  exact un.free b o e n x
 ·obtain ⟨more,e⟩:=un.tbls b qs e;exact ⟨more,D' _ _ e⟩
 ·by_cases z:a = cc
  ·subst z;rw [aE] at e
   cases e
   refine ⟨⟨u0,ru0,oc,ZC,GR⟩,⟨oc,ZC⟩,fun h1 h2 x k=>?_⟩
   obtain ⟨u1,a1,o1,a2,a3⟩:=x;exact ⟨u1,a1,o1,k _ a2,a3⟩
  ·rw [aD z] at e;exact (I3.hok a o e).stay (fun b u _ r=>r) (fun b r=>D' _ _ r) fun b xs r=>D' _ _ r
 ·exact q ff c' cc _ h1 hcH (h2.trans (.of D')) (h3.same D') (D' _ _ h4) (D' _ _ h5) aE
theorem JN {x : Str} {st : Stmt} {fd : FuncData} {np rpos : Pos} (F : Fun K x qual st f fd) (S : aq [p, g] [p] (ae st)) (LS : (ae st).names.lookup p = some .cell) (xC : (ae st).names.lookup g = some .local) (hpg : p ≠ g)
    (hb:ao st = [.FunctionDef g ip ib [] none [] sQ none g j0,.Return (some (.Name g np)) rpos]) (DI:ip.defaults = []) (GU:ip.kw_defaults = []) (ha:∀ env,annTrees ip none env = []) (qM:∀ env cc,env.cells.lookup p = some cc->closureFor sQ env = pure [(p,cc)])
    (hq:∀ L cd,qualnameIn (envOfC qual (ae st) L f cd) g g = iq) (UC:(g == ("__debug__":Str)) = false) (JC:fd.code = .ref c) (hC:CodeHd base c T) (hB:base.BuiltinsAt mg T) :
    FnOk P w K mg base cy (k + 1) f fd [p] (Gj T j0 g iq ip ib sQ p):=by
 obtain ⟨oc,od,kV,doc,pm,an,bq,ct,DF,rfl,lk,j5⟩:=F.ex;refine ⟨fun vs H Q E h=>by obtain ⟨v,rfl,_⟩:=h;rfl,fun A outer s H args us vs Q E hr e0 hbi r xA=>?_⟩
 obtain ⟨v,rfl,ht,q⟩:=xA;have KX:K.In s.heap:=e0.mod.kin.keeps fun b o e=>(e0.bs b o e).1
 have lim:s.heap.NoLimit:=e0.mod.nolimit.keeps fun b o e=>(e0.bs b o e).1
 have vm:∀ y ∈ [p].zip us,(ae st).names.lookup y.1 = some .local \/ ((ae st).names.lookup y.1 = some .cell/\((cellsFrom (s.heap.objs.size + 1) (ae st).names []).lookup y.1).isSome = true):=fun ⟨n,v⟩ hy=>by
  rcases S.par n (List.of_mem_zip hy).1 with q | q
  ·exact .inl q
  ·exact .inr ⟨q,W.cellsFrom_some _ _ _ (.inl q)⟩
 refine codeAny_call_function hr.depth (KX _ _ lk) rfl S.co S.gen rfl (W.codeRec_of KX j5) (hbi _ _ _ _ ?_);refine wpAny_newFunctionEnv_cells S.kind vm fun env he s1 xc=>?_
 subst he;refine ⟨lim.keeps xc.toInCall.keep,codeAny_func ?_⟩;have I:Inv (hX cy P w K mg base [p,g] qual (ae st) f bq A outer s H E) [] (start [p,g] [v]) H s1:=lK S hr.hd e0 rfl r xc;obtain ⟨cc,qO⟩:=oU (n:=s.heap.objs.size + 1) LS;have above:s.heap.objs.size < cc:=xc.above p cc (PySem.mem_of_lookup qO);refine wpAny_mono (C9 LS xC hpg hb DI GU ha qM hq UC JC hC hB e0 qO above I ht q) (fun fl s' h=>?_) fun e s' h=>h.elim
 obtain ⟨u,rfl,h⟩:=h;exact h
end
def yP (P:Program) (w:World) (K:W.Frag) (mg:Str->Option Value) (base:Heap) (k:Nat) (ff:Addr) (vs:List V) (H:Hp) (Q:VK):Prop :=
 ∀ (A:Around) (outer:List Env) (s:Shared) (us:List Value),Room k A->qb P w K mg base A outer s H->Vals vs us->wpAny (model P w) A (call (.ref ff) us) (CE outer P w H s Q) (fun _ _=>False) s
def vZ (H:Hp) (ff:Addr):Prop:=∃ g iq ip ib sQ cl c',H ff = some (.ext (pK g iq ip ib sQ cl ff c'))
def wy (P:Program) (w:World) (K:W.Frag) (mg:Str->Option Value) (base:Heap) (k:Nat) (tc:TE) (t:TA):TE:=fun σ H Q=>tc σ H fun fv H1=>∃ ff,fv = .ref ff/\vZ H1 ff/\t σ H1 fun vs H2=>vZ H2 ff/\yP P w K mg base k ff vs H2 Q
section
variable {callee e:Expr} {es:List Expr} {tc:TE} {t:TA}
theorem C' {pins:List (Addr × Obj)} {ff:Addr} (I:Inv X pins σ H s) (h:vZ H ff):FnAt ff s.heap:=by
 obtain ⟨g,iq,ip,ib,sQ,cl,c',h⟩:=h;obtain ⟨doc,pm,i0,e⟩:=(I.hok ff _ h).1;exact ⟨_,_,_,_,e⟩
theorem B6 (hP : X.prog = P) (hw : X.w = w) (hK : X.K = K) (hm : X.mg = mg) (hb : X.base = base) (hr : Room k X.A) (hc : PE X callee tc) (ha : PA X (e :: es) t)
    (UE:eval (.Call callee (e :: es) [] pos) X.env = (eval callee X.env >>= fun f=>callWith pos f [] (backTo pos (starEach (e :: es) X.env)) (backToKw pos (keywordEach [] X.env))):=by rfl)
    (he:starEach (e :: es) X.env = (false,eval e X.env) :: starEach es X.env:=by rfl) (qL:(backTo pos (starEach es X.env)).any (·.1) = false:=by rfl) :
    PE X (.Call callee (e :: es) [] pos) (wy P w K mg base k tc t):=by
 subst hP hw hK hm hb;intro pins s σ H Q I h;rw [UE];refine wpAny_bind (cz (hc pins s σ H _ I h) fun f s1 ⟨fv,H1,I1,rf,ff,e1,h1,q⟩=>?_)
 subst e1
 cases (show f = Value.ref ff from rf)
 refine callWith_F (C' I1 h1) (cz (ha pos pins s1 σ H1 _ I1 q) fun us s2 ⟨vs,H2,I2,r,h2,q2⟩=>⟨C' I2 h2,?_⟩) he qL
 exact wpAny_mono (q2 X.A X.stack s2 us hr I2.env0 r) (fun u s3 hce=>I2.after hce) fun _ _ z=>z.elim
theorem FK (hP : X.prog = P) (hw : X.w = w) (hK : X.K = K) (hm : X.mg = mg) (hb : X.base = base) (hr : Room k X.A) (hc : BE X callee tc) (ha : BA X (e :: es) t)
    (UE:eval (.Call callee (e :: es) [] pos) X.env = (eval callee X.env >>= fun f=>callWith pos f [] (backTo pos (starEach (e :: es) X.env)) (backToKw pos (keywordEach [] X.env))):=by rfl)
    (h1:isStar e = false:=by rfl) (h2:noStar es = true:=by rfl) :
    BE X (.Call callee (e :: es) [] pos) (wy P w K mg base k tc t):=⟨B6 hP hw hK hm hb hr hc.h ha.h UE (aN h1) (cJ h2)⟩
instance zc1:bK (wy P w K mg base k tc t σ H Q) (tc σ H fun fv H1=>∃ ff,fv = .ref ff/\vZ H1 ff/\t σ H1 fun vs H2=>vZ H2 ff/\yP P w K mg base k ff vs H2 Q):=⟨id⟩
theorem Bh {name : Str} {body : List Stmt} {N ps : List Str} {ip : Nat} {c' : Addr} {vs : List V} {R : V -> Prop} (S : pJ N ps p ip scope) (hf : H f = some (.ext (pK name qual params body scope [(p, cc)] f c'))) (hc : H c' = some (.ext (gp qual c'))) (qO : H cc = some (.ext (xR v cc)))
    (hb:∀ us doc pm i0,us.length = ps.length->bindArgs (fnX name qual params body scope [(p,cc)] .none .none doc pm none (.ref c') i0) ⟨us,[]⟩ = pure (ps.zip us)) (hl:vs.length = ps.length)
    (fZ:∀ (A:Around) (outer:List Env) (s:Shared),Room k (A.deeper (envX qual scope s.heap.objs.size f (.ref c') [(p,cc)]))->∃ t,Aw (Ob P w K mg base N qual scope f (.ref c') [(p,cc)] A outer s (del H cc)) body t /\
     t { nx:=fun _ _=>False,rt:=fun v' H'=>H' = del H cc/\R v' } ((start N vs).set ip (some v)) (del H cc)) (q:∀ v',R v'->Q v' H):yP P w K mg base (k + 1) f vs H Q:=by
 intro A outer s us hr e0 r;refine wpAny_mono (FF (k:=k) S hr e0 hf hc qO (fun doc pm i0=>hb us doc pm i0 (by rw [<- r.length,hl])) hl r fun Ap=>fZ A outer s Ap) (fun u s' h=>?_) fun _ _ z=>z
 obtain ⟨v',H',a1,a2,a3,a4,a5,rfl,a6⟩:=h;exact ⟨v',H',a1,a2,a3,a4,a5,q v' a6⟩
end
end L2
namespace L2
open PySem PySem.Spec PyProof.Rows
theorem ObjOk.some {P:Program} {w:World} {H:Hp} {h:Heap} {a:Addr} {o:HO} (x:ObjOk P w H h a o):∃ ob,h.get? a = Option.some ob:=by
 cases o with
 | lst xs=>obtain ⟨_,_,_,_,e⟩:=x;exact ⟨_,e⟩
 | tup xs=>obtain ⟨_,_,_,ob,e,_⟩:=x;exact ⟨_,e⟩
 | dK aF=>obtain ⟨_,_,_,_,o,_,_,e,_⟩:=x;exact ⟨_,e⟩
 | dT aF=>obtain ⟨_,_,_,_,o,_,_,e,_⟩:=x;exact ⟨_,e⟩
 | set S n=>obtain ⟨o,_,_,_,e,_⟩:=x;exact ⟨_,e⟩
 | ins C dx fs=>obtain ⟨_,_,_,e,_⟩:=x;exact ⟨_,e⟩
 | own y=>obtain ⟨_,e⟩:=x;exact ⟨_,e⟩
 | xd fs=>obtain ⟨_,⟨_,_,_,e,_⟩,_⟩:=x;exact ⟨_,e⟩
 | rng lo hi=>obtain ⟨_,_,_,e⟩:=x;exact ⟨_,e⟩
 | frz ob u=>obtain ⟨e,_⟩:=x;exact ⟨_,e⟩
 | tbl ps=>exact ⟨_,(show h.get? a = Option.some _ from x)⟩
 | met f y=>exact ⟨_,(show h.get? a = Option.some _ from x)⟩
 | ext φ=>obtain ⟨_,⟨_,e⟩,_⟩:=x;exact ⟨_,e⟩
def OfCls (h:Heap) (x C:Addr):Prop:=∃ o,h.get? x = some o/\o.cls = .ref C
theorem OfCls.type {M:Model} {h:Heap} {x C:Addr} (I:OfCls h x C):W.Looks M h (typeOf (.ref x)) (.ref C):=by
 obtain ⟨o,e,c⟩:=I;exact c ▸ (W.Looks.ld e).andThen .now
end L2
namespace L2
open PySem PySem.Spec PySem.Calls PySem.W PyProof.Rows Builtin Builtin.ObjectAttr Builtin.Getset_descriptor
end L2
namespace L2
open PySem PySem.Spec PyProof.Rows
end L2
namespace L2
open PySem PySem.Spec PySem.Calls PySem.W PyProof.Rows Builtin Builtin.ObjectAttr Builtin.Getset_descriptor
end L2
namespace L2
open PySem PySem.Spec PyProof.Rows
end L2
namespace PySem
open Sem (wp)
end PySem
namespace L2
open PySem PySem.Spec PySem.Calls PySem.W PyProof.Rows Builtin Builtin.ObjectAttr Builtin.Getset_descriptor
end L2
namespace L2
open PySem PySem.Spec PyProof.Rows
def ExcO (C ea:Addr) (dc:Option Addr) (h:Heap):Prop:=∃ t,h.get? ea = some { cls:=.ref C,dict:=dc,data:=.fields #[.ref t,.none,.none,.none,.bool false,.none] }
theorem ExcO.ok {P:Program} {w:World} {H:Hp} {h:Heap} {C ea:Addr} {dc:Option Addr} (x:ExcO C ea dc h):ObjOk P w H h ea (.ext (ExcO C ea dc)) :=
 ⟨x,let ⟨_,e⟩:=x;⟨_,e⟩,fun _ _ y k=>let ⟨t,e⟩:=y;⟨t,k _ e⟩⟩
section
variable {X:Cx} {K:W.Frag} {σ:St} {H:Hp} {Q:VK} {o e i f value:Expr} {td ty tx tv:TE} {pos pos' apos cH:Pos}
instance yc7 {D:Ends}:bK (ya td ty tv D σ H) (tv σ H fun v H1=>td σ H1 fun x H2=>ty σ H2 fun y H3=>∃ a H4,x = .ref a/\DPut H3 a y v H4/\D.nx σ H4):=⟨id⟩
end
theorem Room.m {A:Around} {j k:Nat} (h:Room k A) (l:j <= k:=by first | decide | omega):Room j A:=h.mono l
end L2
namespace T26
open PySem L2
variable {P:Program} {w:World} {K:W.Frag} {mg:Str->Option Value} {base:Heap} {f a p p' r pr ra rb:Addr} {fd:FuncData} {H H':Hp} {Q:VK} {E:XK} {ns:List Int} {i c m j sz t least most:Int} {x z lo:Str} {σ:St} {v:V} {e:Ent} {κ:Type} {xs:List V} {es fs:List Ent} {ds:List Nat}
abbrev kU:Addr:=422
abbrev bG:Addr:=193
abbrev tabs:List Addr:=[kU,bG]
def top (i:Nat):Stmt:=PySem.Challenge.pw_tierstore_k26_whole_runs.main.body.getD i (.Pass ⟨0,0,0,0⟩)
abbrev bI:Stmt:=top 6
abbrev fL:Stmt:=top 7
abbrev cq:Stmt:=top 8
abbrev bL:Stmt:=top 9
abbrev bf:Stmt:=top 16
abbrev fO:Stmt:=top 17
abbrev dH:Stmt:=top 18
abbrev aZ:Stmt:=top 19
abbrev dI:Stmt:=top 20
abbrev dJ:Stmt:=top 21
abbrev ei:Stmt:=top 22
abbrev cu:Stmt:=top 23
abbrev dM:Stmt:=top 24
abbrev dQ:Stmt:=top 25
abbrev fM:Stmt:=top 26
abbrev br:Stmt:=top 29
abbrev eh:Stmt:=top 30
abbrev fK:Stmt:=top 31
abbrev bN:Stmt:=top 32
abbrev aR:Stmt:=top 33
abbrev fB:Stmt:=top 40
abbrev cD:Stmt:=top 41
abbrev dF:Stmt:=top 42
abbrev cY:Stmt:=top 43
abbrev dE:Stmt:=top 44
abbrev er:Stmt:=top 45
abbrev cE:Stmt:=top 46
abbrev cW:Stmt:=top 47
abbrev cj:Stmt:=top 48
abbrev aP:Stmt:=top 50
abbrev fJ:Stmt:=top 51
abbrev aJ:Stmt:=top 52
abbrev ej:Stmt:=top 53
abbrev fN:Stmt:=top 54
abbrev jW:Stmt:=top 55
abbrev et:Stmt:=top 56
abbrev dN:Stmt:=top 65
abbrev cZ:Stmt:=top 66
abbrev en:Stmt:=top 67
abbrev cV:Stmt:=top 68
abbrev cX:Stmt:=top 69
abbrev bo:Stmt:=top 70
abbrev cF:Stmt:=top 71
abbrev bM:Stmt:=top 72
abbrev da:Stmt:=top 73
abbrev dG:Stmt:=top 74
abbrev bP:Stmt:=top 76
abbrev cv:Stmt:=top 77
abbrev bu:Stmt:=top 78
abbrev cw:Stmt:=top 79
abbrev de:Stmt:=top 80
abbrev bD:Stmt:=top 81
abbrev bE:Stmt:=top 82
abbrev aS:Stmt:=top 83
abbrev bO:Stmt:=top 84
abbrev aT:Stmt:=top 85
abbrev ba:Stmt:=top 87
abbrev bg:Stmt:=top 88
abbrev dO:Stmt:=top 89
abbrev bQ:Stmt:=top 90
abbrev aV:Stmt:=top 91
abbrev nO:Stmt:=top 92
structure Txt (K:W.Frag) (mg:Str->Option Value):Prop where
 f_are_figures:HasFn K mg "are_figures" bI ["text"]
 f_padded:HasFn K mg "padded" fL ["number","width"]
 f_read_padded:HasFn K mg "read_padded" cq ["text","least","most"]
 f_read_figures:HasFn K mg "read_figures" bL ["text","least","most"]
 f_is_plain_text:HasFn K mg "is_plain_text" bf ["thing","fewest","most"]
 f_is_key:HasFn K mg "is_key" fO ["thing"]
 f_is_value:HasFn K mg "is_value" dH ["thing"]
 f_is_whole_number:HasFn K mg "is_whole_number" aZ ["thing"]
 f_is_stamp:HasFn K mg "is_stamp" dI ["thing"]
 f_is_entry:HasFn K mg "is_entry" dJ ["thing"]
 f_rank_of:HasFn K mg "rank_of" ei ["entry"]
 f_comes_ahead:HasFn K mg "comes_ahead" cu ["one","other"]
 f_in_order:HasFn K mg "in_order" dM ["entries"]
 f_stretch:HasFn K mg "stretch" dQ ["entries","low","high"]
 f_newest:HasFn K mg "newest" fM ["entries","key","stamp"]
 f_text_of_rows:HasFn K mg "text_of_rows" br ["rows"]
 f_rows_of:HasFn K mg "rows_of" eh ["text"]
 f_row_at:HasFn K mg "row_at" fK ["rows","line"]
 f_key_and_rest:HasFn K mg "key_and_rest" bN ["key","rest"]
 f_read_key_and_rest:HasFn K mg "read_key_and_rest" aR ["text"]
 f_probe:HasFn K mg "probe" fB ["factor"]
 f_places_of:HasFn K mg "places_of" cD ["key","size"]
 f_sieve_of:HasFn K mg "sieve_of" dF ["keys"]
 f_may_have:HasFn K mg "may_have" cY ["sieve","key"]
 f_signs_of:HasFn K mg "signs_of" dE ["bits","many"]
 f_bits_of:HasFn K mg "bits_of" er ["signs"]
 f_sieve_text:HasFn K mg "sieve_text" cE ["sieve"]
 f_read_size:HasFn K mg "read_size" cW ["text"]
 f_read_sieve:HasFn K mg "read_sieve" cj ["text"]
 f_sieve_of_entries:HasFn K mg "sieve_of_entries" aP ["entries"]
 f_run_of:HasFn K mg "run_of" fJ ["entries"]
 f_are_entries_of_a_run:HasFn K mg "are_entries_of_a_run" aJ ["thing"]
 f_is_pair:HasFn K mg "is_pair" ej ["thing"]
 f_is_run:HasFn K mg "is_run" fN ["thing"]
 f_find:HasFn K mg "find" jW ["run","key","stamp"]
 f_between:HasFn K mg "between" et ["run","low","high"]
 f_check_of:HasFn K mg "check_of" dN ["text"]
 f_entry_row:HasFn K mg "entry_row" cZ ["entry"]
 f_end_row:HasFn K mg "end_row" en ["ahead"]
 f_run_text:HasFn K mg "run_text" cV ["run"]
 f_read_head:HasFn K mg "read_head" cX ["row"]
 f_read_sieve_row:HasFn K mg "read_sieve_row" bo ["row"]
 f_read_entry:HasFn K mg "read_entry" cF ["row"]
 f_read_entries:HasFn K mg "read_entries" bM ["rows","many"]
 f_check_end:HasFn K mg "check_end" da ["text","rows","line"]
 f_read_run:HasFn K mg "read_run" dG ["text"]
 f__law_cell_at:HasFn K mg "_law_cell_at" bP ["_law_script","_law_k"]
 f__law_stream:HasFn K mg "_law_stream" cv ["_law_cell","_law_many"]
 f__law_text_by:HasFn K mg "_law_text_by" bu ["_law_x","_law_size","_law_some"]
 f__law_key_by:HasFn K mg "_law_key_by" cw ["_law_x"]
 f__law_near:HasFn K mg "_law_near" de ["_law_named","_law_x"]
 f__law_value_by:HasFn K mg "_law_value_by" bD ["_law_x"]
 f__law_stamp_by:HasFn K mg "_law_stamp_by" bE ["_law_x"]
 f__law_entries_by:HasFn K mg "_law_entries_by" aS ["_law_cell","_law_many"]
 f__law_many_by:HasFn K mg "_law_many_by" bO ["_law_cell"]
 f__law_in_order:HasFn K mg "_law_in_order" aT ["_law_entries"]
 f__law_entry_same:HasFn K mg "_law_entry_same" ba ["_law_told","_law_due_here"]
 f__law_all_same:HasFn K mg "_law_all_same" bg ["_law_told","_law_due_here"]
 f__law_due:HasFn K mg "_law_due" dO ["_law_entries","_law_named","_law_stamp"]
 f__law_answers:HasFn K mg "_law_answers" bQ ["_law_run","_law_entries","_law_xs"]
 f__law_stretched:HasFn K mg "_law_stretched" aV ["_law_run","_law_entries","_law_xs"]
 c__law_in_order:∃ f fd cd,Fn K mg "_law_in_order" aT ["_law_entries"] f fd/\fd.code = .ref cd/\W.codeHdIn K cd kU = true
 c_probe:∃ f fd cd,Fn K mg "probe" fB ["factor"] f fd/\fd.code = .ref cd/\W.codeHdIn K cd bG = true
 g_FIGURES:∃ u,mg "FIGURES" = some u/\RelV (.str (PySem.Str.ofString "0123456789")) u
 g_LOWEST_SIGN:∃ u,mg "LOWEST_SIGN" = some u/\RelV (.str (PySem.Str.ofString " ")) u
 g_HIGHEST_SIGN:∃ u,mg "HIGHEST_SIGN" = some u/\RelV (.str (PySem.Str.ofString "~")) u
 g_LONGEST_KEY:∃ u,mg "LONGEST_KEY" = some u/\RelV (.int 20) u
 g_LONGEST_VALUE:∃ u,mg "LONGEST_VALUE" = some u/\RelV (.int 40) u
 g_GREATEST_STAMP:∃ u,mg "GREATEST_STAMP" = some u/\RelV (.int 999999999) u
 g_KEY_FIGURES:∃ u,mg "KEY_FIGURES" = some u/\RelV (.int 2) u
 g_FACTORS:∃ a,(∃ u,mg "FACTORS" = some u/\RelV (.ref a) u)/\∀ H,SqT K H a [.int 31,.int 37,.int 41]
 g_FIRST_NUMBER_sieves:∃ u,mg "FIRST_NUMBER_sieves" = some u/\RelV (.int 7) u
 g_MODULUS_sieves:∃ u,mg "MODULUS_sieves" = some u/\RelV (.int 1000003) u
 g_SIGNS:∃ u,mg "SIGNS" = some u/\RelV (.str (PySem.Str.ofString "abcdefghijklmnop")) u
 g_GREATEST_SIZE:∃ u,mg "GREATEST_SIZE" = some u/\RelV (.int 999992) u
 g_FIRST_NUMBER_runfiles:∃ u,mg "FIRST_NUMBER_runfiles" = some u/\RelV (.int 7) u
 g_FACTOR:∃ u,mg "FACTOR" = some u/\RelV (.int 31) u
 g_MODULUS_runfiles:∃ u,mg "MODULUS_runfiles" = some u/\RelV (.int 9973) u
 g_MOST_ENTRIES:∃ u,mg "MOST_ENTRIES" = some u/\RelV (.int 9999) u
 g_HEAD_LINE:∃ u,mg "HEAD_LINE" = some u/\RelV (.int 1) u
 g_SIEVE_LINE:∃ u,mg "SIEVE_LINE" = some u/\RelV (.int 2) u
 g_FIRST_ENTRY_LINE:∃ u,mg "FIRST_ENTRY_LINE" = some u/\RelV (.int 3) u
 b__law_entry:mg "_law_entry" = none
 b_all:mg "all" = none
 b_bool:mg "bool" = none
 b_int:mg "int" = none
 b_isinstance:mg "isinstance" = none
 b_key:mg "key" = none
 b_len:mg "len" = none
 b_list:mg "list" = none
 b_max:mg "max" = none
 b_ord:mg "ord" = none
 b_place_of:mg "place_of" = none
 b_range:mg "range" = none
 b_set:mg "set" = none
 b_size:mg "size" = none
 b_sorted:mg "sorted" = none
 b_str:mg "str" = none
 b_tuple:mg "tuple" = none
local macro_rules | `(tactic| lcg_src) => `(tactic| first | with_reducible assumption | ((with_reducible refine' Same.get ?s ?e); (case s => with_reducible assumption); (case e => lcg_src)))
local macro_rules | `(tactic| lcg_sub) => `(tactic| first | with_reducible assumption | with_reducible exact Same.refl _ | ((with_reducible refine' Same.tr ?s ?e); (case s => with_reducible assumption); (case e => lcg_sub)))
local macro_rules | `(tactic| keq_rows) => `(tactic| first | with_reducible assumption | with_reducible exact Rep.int' | with_reducible exact Rep.str' | with_reducible exact Rep.bl' | with_reducible exact Rep.non' | ((with_reducible refine' Rep.same ?s ?e); (case s => with_reducible assumption); (case e => keq_rows)) | ((with_reducible refine' Rep.mkT ?c ?_); (case c => lcg_src); keq_hits) | ((with_reducible refine' Rep.mkL ?c ?_); (case c => lcg_src); keq_hits) | ((with_reducible refine' Rep.mkD ?c); (case c => lcg_src)))
local macro_rules | `(tactic| keq_hits) => `(tactic| first | with_reducible assumption | with_reducible exact Reps.nil' | ((with_reducible refine' Reps.cons' ?c ?_); (case c => keq_rows); keq_hits) | ((with_reducible refine' Reps.same ?s ?e); (case s => with_reducible assumption); (case e => keq_hits)))
local macro_rules | `(tactic| tlg_ne) => `(tactic| first | with_reducible assumption | ((with_reducible refine' SqL.of ?c); (case c => lcg_src)) | ((with_reducible refine' SqT.of ?c); (case c => lcg_src)) | ((with_reducible refine' SqL.same ?s ?e); (case s => with_reducible assumption); (case e => tlg_ne)))
local macro_rules | `(tactic| kpc_turns) => `(tactic| first | decide | omega | (constructor <;> first | decide | omega))
local macro_rules | `(tactic| kas_types) => `(tactic| simp only [cxK, WQ, My, AW, AV, AU])
local macro_rules | `(tactic| kpt_turns) => `(tactic| first
 | refine KY ?_
 | ((with_reducible refine' Bv ?c ?_);(case c=>kpc_turns))
 | ((with_reducible refine' Ei ?c ?_);(case c=>kpc_turns))
 | ((with_reducible refine' Ef ?c ?_);(case c=>first | exact .inl (by kpc_turns) | exact .inr (by kpc_turns)))
 | ((with_reducible refine' HQ ?c ?_);(case c=>(simp only [List.length_cons,List.length_nil];decide));intro _ _ _ _)
 | ((with_reducible refine' HR ?c ?_);(case c=>(simp only [List.length_cons,List.length_nil];decide));intro _ _ _ _ _)
 | ((with_reducible refine' rP ?c ?d ?_);(case c=>tlg_ne);(case d=>exact rfl))
 | ((with_reducible refine' dU ?c ?d ?_);(case c=>tlg_ne);(case d=>exact rfl))
 | ((with_reducible refine' HZ ?c ?_);(case c=>lcg_src))
 | ((with_reducible refine' Ib ?c ?_);(case c=>lcg_src))
 | ((with_reducible refine' Ic ?c ?_);(case c=>lcg_src))
 | ((with_reducible refine' yb ?c ?_);(case c=>tlg_ne))
 | ((with_reducible refine' yc ?c ?_);(case c=>tlg_ne))
 | ((with_reducible refine' rO ?c ?_);(case c=>first | assumption | (show _ <= 16777216;decide) | omega))
 | ((with_reducible refine' Px ?c ?d ?_);(case c=>tlg_ne);(case d=>simp [HT.sIx];done);intro _ _ _ h;(simp [kH,HT.sIx] at h))
 | ((with_reducible refine' Im ?c ?_);(case c=>lcg_src))
 | ((with_reducible refine' HL ?c ?_);(case c=>omega))
 | ((with_reducible refine' NN ?_);intro _ _ _ _ _)
 | ((with_reducible refine' Py ?c ?_);(case c=>kpc_turns))
 | ((with_reducible refine' Ii ?c ?_);(case c=>tlg_ne))
 | ((with_reducible refine' Ih ?c ?_);(case c=>tlg_ne))
 | ((with_reducible refine' Ek ?c ?_);(case c=>kpc_turns))
 | ((with_reducible refine' Ej ?c ?_);(case c=>refine ⟨?_,?_,?_,?_⟩ <;> first | decide | omega))
 | ((with_reducible refine' NM ?c ?d ?_);(case c=>tlg_ne);(case d=>exact rfl))
 | ((with_reducible refine' Bw ?c ?_);(case c=>tlg_ne);intro _ _ _ _ _)
 | ((with_reducible refine' KW ?c ?_);(case c=>tlg_ne);intro _ _ _ _ _)
 | ((with_reducible refine' yd ?c ?d ?e ?_);(case c=>lcg_src);(case d=>lcg_src);(case e=>first | (simp only [List.length_cons,List.length_nil];decide) | (simp only [List.length_cons,List.length_nil,List.length_append,sizeLine_eq];omega));intro _ _ _ _ h;(try simp only [List.cons_append,List.nil_append] at h))
 | ((with_reducible refine' NO ?c ?d ?f ?e ?_);(case c=>lcg_src);(case d=>lcg_src);(case f=>(intro h;cases h));(case e=>first | (simp only [List.length_cons,List.length_nil];decide) | (simp only [List.length_cons,List.length_nil,List.length_append,sizeLine_eq];omega));intro _ _ _ h;(try simp only [List.cons_append,List.nil_append] at h)))
local macro_rules | `(tactic| lcg_off) => `(tactic| repeat kpt_turns)
local macro_rules | `(tactic| kaf_pre) => `(tactic| ((with_reducible refine' NL ?c ?a ?b ?_); (case c => tlg_ne); (case a => first | exact Int.emod_nonneg _ (by decide) | omega); (case b => first | exact Int.emod_lt_of_pos _ (by decide) | (simp only [List.length_cons, List.length_nil]; omega))))
local macro_rules | `(tactic| kaf_suf) => `(tactic| ((with_reducible refine' jo ?c ?a ?b ?_); (case c => tlg_ne); (case a => first | exact Int.emod_nonneg _ (by decide) | omega); (case b => first | exact Int.emod_lt_of_pos _ (by decide) | (simp only [List.length_cons, List.length_nil]; omega))))
section
def A9 (K:W.Frag):Sp:=fun vs H Q _=>∃ (a:Addr) (ns:List Int) (k:Nat),vs = [.ref a,.int k]/\SqL K H a (ns.map V.int)/\Q (.int (ns.getD k 0)) H
theorem mF:aq ["_law_script","_law_k"] ["_law_script","_law_k"] (ae bP):=⟨rfl,rfl,rfl,by decide +kernel,rfl,by decide +kernel,by decide +kernel⟩
theorem mL (T:Txt K mg) (N:Fn K mg "_law_cell_at" bP ["_law_script","_law_k"] f fd):FnOk P w K mg base cy (1) f fd ["_law_script","_law_k"] (A9 K):=by
 refine N.fu.okB mF (fun vs H Q E h=>?_) (fun bq A outer s H vs Q E hr h=>?_)
 ·obtain ⟨a,ns,k,rfl,_⟩:=h
  rfl
 ·obtain ⟨a,ns,k,rfl,hS,q⟩:=h;refine ⟨_,(ag (aL (ax sy (bv 1) (eZ bT T.b_len (by kernel_rfl) (ai (bv 0) af rfl)) (au _))
   (ah (aj (aG ak (bv 0) (bv 1) (fun _ _=>rfl))))
   aw)
  (ah (aj b_int))),?_⟩
  kas_types;lcg_off;refine aI (fun h1=>?_) (fun h1=>?_)
  ·rw [List.length_map] at h1;have hk:k < ns.length:=by omega
   lcg_off;refine dU hS (bZ (v:=.int (ns.getD k 0)) ?_) q;rw [List.getElem?_map,List.getElem?_eq_getElem hk,List.getD_eq_getElem?_getD,List.getElem?_eq_getElem hk]
   rfl
  ·rw [List.length_map] at h1;have e:ns.getD k 0 = 0:=by
    rw [List.getD_eq_getElem?_getD,List.getElem?_eq_none (by omega)]
    rfl
   rw [e] at q;lcg_off;exact q
theorem gh {k:Nat} (hS:SqL K H a (ns.map V.int)) (hi:i = (k:Int)) (q:Q (.int (ns.getD k 0)) H):A9 K [.ref a,.int i] H Q E:=⟨a,ns,k,by rw [hi],hS,q⟩
theorem la (x y:Str):(x ++ y).length = x.length + y.length:=by rw [len_list,app_list,List.length_append,<- len_list,<- len_list]
theorem ly {lo hi:Option Int} (hx:x.length <= 5000) (h:Q (.str (Txt.slice x lo hi)) H):zf K (.str x) lo hi H Q:=ir (by rw [sizeLine_eq];omega) h
def tZ:Sp:=fun vs H Q _=>∃ c m:Int,vs = [.int c,.int m]/\0 <= m/\m <= 5000/\∀ p H' (ns:List Int),H p = none->Same H H'->H' p = some (.lst (ns.map V.int))->ns.length = m.toNat->(∀ n ∈ ns,0 <= n)->Q (.ref p) H'
theorem cU:aq ["_law_cell","_law_many","_law_found","_law_number","_law_k"] ["_law_cell","_law_many"] (ae cv):=⟨rfl,rfl,rfl,by decide +kernel,rfl,by decide +kernel,by decide +kernel⟩
theorem fR (T:Txt K mg) (N:Fn K mg "_law_stream" cv ["_law_cell","_law_many"] f fd):FnOk P w K mg base cy (1) f fd ["_law_cell","_law_many"] (tZ):=by
 refine N.fu.okB cU (fun vs H Q E h=>?_) (fun bq A outer s H vs Q E hr h=>?_)
 ·obtain ⟨c,m,rfl,_⟩:=h
  rfl
 ·obtain ⟨c,m,rfl,h0,hm,q⟩:=h;refine ⟨_,(ag (av (i:=2) cU.nd rfl (by first | exact Or.inl rfl | exact Or.inr rfl) (fw af))
  (ag (av (i:=3) cU.nd rfl (by first | exact Or.inl rfl | exact Or.inr rfl) (az aM (bv 0) b_int))
  (ag (fi PassesOwn.never rfl (vM T.b_range (ai (bv 1) af rfl)) (dD (i:=4) cU.nd rfl (by first | exact Or.inl rfl | exact Or.inr rfl))
   (ag (av (i:=3) cU.nd rfl (by first | exact Or.inl rfl | exact Or.inr rfl) (az aM (az aW (az aW (az ft (bv 3) b_int) b_int) (bv 4)) b_int))
  (ah (ni (lO (bv 2) (ai (az bj (bv 3) b_int) af rfl))))))
  (ah (aj (bv 2)))))),?_⟩
  kas_types;lcg_off;rename_i l Hl Fq sl hl;refine forR (fun i σ H'=>∃ (ns:List Int) (nb:Int) (o:Option V),σ = [some (.int c),some (.int m),some (.ref l),some (.int nb),o]/\Same H H'/\H' l = some (.lst (ns.map V.int))/\ns.length = i/\(∀ n ∈ ns,0 <= n))
   ⟨[],_,none,rfl,sl,hl,rfl,fun n hn=>(nomatch hn)⟩ (fun i σ H' hi h=>?_) (fun σ H' h=>?_)
  ·obtain ⟨ns,nb,o,rfl,s1,hx,hlen,CO⟩:=h;lcg_off;refine jq hx (by rw [List.length_map,hlen,sizeLine_eq];omega) ?_;lcg_off;refine ⟨ns ++ [(nb * 48271 + 11 + (0 + (i:Int))) % 2147483647 / 13],_,_,rfl,gS s1 Fq,?_,?_,?_⟩
   ·rw [aE,List.map_append]
    rfl
   ·rw [List.length_append,hlen]
    rfl
   ·intro n hn
    rcases List.mem_append.mp hn with h1 | h1
    ·exact CO n h1
    ·rw [List.mem_singleton.mp h1];exact Int.ediv_nonneg (Int.emod_nonneg _ (by decide)) (by decide)
  ·obtain ⟨ns,nb,o,rfl,s1,hx,hlen,CO⟩:=h;lcg_off;exact q l H' ns Fq s1 hx hlen CO
theorem jP (h0:0 <= m) (hm:m <= 5000) (q:∀ p H' (ns:List Int),H p = none->Same H H'->H' p = some (.lst (ns.map V.int))->ns.length = m.toNat->(∀ n ∈ ns,0 <= n)->Q (.ref p) H'):tZ [.int c,.int m] H Q E:=⟨c,m,rfl,h0,hm,q⟩
def mY (z:Str):Prop:=z.cps.toList.all eC = true
def tY:Sp:=fun vs H Q _=>∃ (n m:Int) (b:Bool),vs = [.int n,.int m,.bl b]/\0 <= m/\m <= 1000/\∀ (z:Str) H',(z.length:Int) = m->mY z->Same H H'->Q (.str z) H'
theorem dB:aq ["_law_x","_law_size","_law_some","_law_signs"] ["_law_x","_law_size","_law_some"] (ae bu):=⟨rfl,rfl,rfl,by decide +kernel,rfl,by decide +kernel,by decide +kernel⟩
theorem iG (T:Txt K mg) (N:Fn K mg "_law_text_by" bu ["_law_x","_law_size","_law_some"] f fd):FnOk P w K mg base cy (2) f fd ["_law_x","_law_size","_law_some"] (tY):=by
 obtain ⟨_,_,bJ⟩:=T.f__law_stream;have dz:=fR (P:=P) (w:=w) (base:=base) T bJ;refine N.fu.okB dB (fun vs H Q E h=>?_) (fun bq A outer s H vs Q E hr h=>?_)
 ·obtain ⟨n,m,b,rfl,_⟩:=h
  rfl
 ·obtain ⟨n,m,b,rfl,h0,hm,q⟩:=h;refine ⟨_,(ag (av (i:=3) dB.nd rfl (by first | exact Or.inl rfl | exact Or.inr rfl) b_str)
  (ag (av (i:=3) dB.nd rfl (by first | exact Or.inl rfl | exact Or.inr rfl) (az aW (bv 3) b_str))
  (ag (aL (bh (bv 2) (fun _=>rfl))
   (ah (av (i:=3) dB.nd rfl (by first | exact Or.inl rfl | exact Or.inr rfl) b_str))
   aw)
  (ah (aj (yL b_str (ai (j7 (x:="_law_y") (ix:=[3]) (fv:=["_law_signs"]) (osc:=ae bu) rfl ⟨rfl,by decide +kernel,by decide +kernel,by rfl,by decide +kernel,by decide +kernel,by decide +kernel⟩ (by rfl) (eM (bF bJ dz (hr.mono (by first | decide | omega)) (ai (bv 0) (ai (bv 1) af rfl) rfl))) (fun _ _ _ _=>fj) (fun _ _ _ _=>(aG (cR (K:=K) rfl) (bv 1) (az aM (bv 0) (eZ (JR (K:=K) rfl) T.b_len (by kernel_rfl) (ai (bv 1) af rfl))) (fun _ _=>rfl)))) af rfl))))))),?_⟩
  kas_types;lcg_off;refine dW (by decide +kernel) ?_;lcg_off;generalize GQ:(Str.ofString " !\"#$&'()*+,-./0123456789:;<=>?@ABCDEFGHIJKLMNOPQRSTUVWXYZ[\\]^_`" ++ Str.ofString "abcdefghijklmnopqrstuvwxyz{|}~") = sgn;have LR:sgn.length = 94:=by rw [<- GQ];decide +kernel
  have hsg:mY sgn:=by rw [<- GQ];unfold mY;decide +kernel
  refine oA (fun σ' H'=>∃ sg:Str,0 < sg.length/\sg.length <= 94/\mY sg/\σ' = [some (.int n),some (.int m),some (.bl b),some (.str sg)]/\H' = H) (fun σ' H' h=>?_) (fun h3 nx hx=>?_) (fun h3 nx hx=>?_)
  ·obtain ⟨sg,g0,g1,g2,rfl,rfl⟩:=h;have Zf:sg.length <= sizeLine:=by rw [sizeLine_eq];omega
   lcg_off;refine ⟨rfl,?_⟩;lcg_off;refine jP (by omega) (by omega) (fun ps Hs ns yx ss hs hlen CO=>?_);lcg_off;refine Jf (xs:=ns.map V.int) (fun i ys H'=>Same Hs H'/\∃ cs:List Nat,ys = (cs.map fun c=>V.str ⟨#[c]⟩)/\cs.length = i/\cs.all eC = true) (by rw [List.length_map,hlen,sizeLine_eq];omega) ⟨Same.refl _,[],rfl,rfl,rfl⟩ (fun i ys H' h=>⟨SqL.of (h.1 _ _ hs),by obtain ⟨_,cs,rfl,h2,_⟩:=h;rw [List.length_map,h2]⟩) (fun i v ys H' hv h=>?_) (fun ys p H' H1 h hp sp hl=>?_)
   ·obtain ⟨sH,cs,rfl,h2,h3⟩:=h;rw [List.getElem?_map] at hv;obtain ⟨x,hx,rfl⟩:=Option.map_eq_some_iff.mp hv;lcg_off;obtain ⟨ch,pM,vk⟩:=vP (xs:=sg.cps.toList) (i:=x % sg.length) (Int.emod_nonneg _ (by omega)) (by rw [<- len_list];exact Int.emod_lt_of_pos _ (by omega));refine wR Zf pM ?_;exact ⟨sH,cs ++ [ch],by rw [List.map_append];rfl,by rw [List.length_append,h2];rfl,by rw [List.all_append,h3,List.all_cons,List.all_nil,List.all_eq_true.mp g2 ch vk];rfl⟩
   ·obtain ⟨sH,cs,rfl,h2,h3⟩:=h;rw [List.length_map] at h2;lcg_off;refine ⟨_,p,cs.map fun c=>(⟨#[c]⟩:Str),rfl,rfl,SqL.of (by rw [hl,List.map_map];rfl),?_,?_⟩
    ·rw [DU,List.length_map,show (Str.ofString "").length = 0 from rfl];omega
    ·rw [join_one];refine q _ _ ?_ h3 (by lcg_sub);have e:(⟨cs.toArray⟩:Str).length = cs.length:=by rw [len_list]
     rw [e];omega
  ·lcg_off;exact hx _ _ ⟨_,by decide +kernel,by decide +kernel,by unfold mY;decide +kernel,rfl,rfl⟩
  ·lcg_off;exact hx _ _ ⟨_,by omega,by omega,hsg,rfl,rfl⟩
theorem fH {n:Int} {b:Bool} (h1:0 <= m) (h2:m <= 1000) (q:∀ (z:Str) H',(z.length:Int) = m->mY z->Same H H'->Q (.str z) H'):tY [.int n,.int m,.bl b] H Q E:=⟨n,m,b,rfl,h1,h2,q⟩
end
section
theorem x' {T U:TS} {D:Ends} (R:St->Hp->Prop) (h1:∀ GC:St->Hp->Prop,(∀ σ' H',R σ' H'->GC σ' H')->T { nx:=GC,rt:=D.rt,bk:=D.bk,ct:=D.ct } σ H) (h2:∀ σ' H',R σ' H'->U D σ' H'):AI T U D σ H:=h1 _ h2
theorem zY (ws:List Str):(ws.map V.str).all kD = true:=by
 rw [List.all_map];exact List.all_eq_true.mpr fun _ _=>rfl
theorem Ig {ws:List Str} {neg:Bool} (h1:SqL K H p (ws.map V.str)) (q:∀ b,Q (.bl b) H):YT K neg (.str x) (.ref p) H Q:=⟨p,_,rfl,.inl h1,rfl,zY ws,q _⟩
theorem Jc (z:Str) (h0:0 <= j) (h:j <= z.length):((Txt.slice z none (some j)).length:Int) = j:=by
 obtain ⟨k,rfl⟩:∃ k:Nat,j = k:=⟨j.toNat,by omega⟩;rw [len_list,nG,List.length_take,<- len_list];omega
theorem len_from (z:Str) (h0:0 <= j) (h:j <= z.length):((Txt.slice z (some j) none).length:Int) = z.length - j:=by
 obtain ⟨k,rfl⟩:∃ k:Nat,j = k:=⟨j.toNat,by omega⟩;rw [len_list,nH,List.length_drop,<- len_list];omega
theorem IX (h0:0 <= j) (h:mY z):mY (Txt.slice z none (some j)):=by
 obtain ⟨k,rfl⟩:∃ k:Nat,j = k:=⟨j.toNat,by omega⟩;unfold mY at *;rw [nG];exact List.all_eq_true.mpr fun x hx=>List.all_eq_true.mp h x (List.mem_of_mem_take hx)
theorem uM (h0:0 <= j) (h:mY z):mY (Txt.slice z (some j) none):=by
 obtain ⟨k,rfl⟩:∃ k:Nat,j = k:=⟨j.toNat,by omega⟩;unfold mY at *;rw [nH];exact List.all_eq_true.mpr fun x hx=>List.all_eq_true.mp h x (List.mem_of_mem_drop hx)
theorem jr {y:Str} (hx:x.length + y.length <= 10000) (ox:mY x) (oy:mY y) (h:∀ z:Str,z.length = x.length + y.length->mY z->Q (.str z) H):jH K (.str x) (.str y) H Q:=dW (by rw [sizeLine_eq];omega) (h _ (la x y) (by unfold mY at *;rw [app_list,List.all_append,ox,oy];rfl))
def zy (w:Str):Prop:=1 <= w.length/\w.length <= 20/\mY w
def xZ:Sp:=fun vs H Q _=>∃ n:Int,vs = [.int n]/\0 <= n/\∀ (z:Str) H',zy z->Same H H'->Q (.str z) H'
theorem fI:aq ["_law_x","_law_way","_law_more"] ["_law_x"] (ae cw):=⟨rfl,rfl,rfl,by decide +kernel,rfl,by decide +kernel,by decide +kernel⟩
theorem oe (T:Txt K mg) (N:Fn K mg "_law_key_by" cw ["_law_x"] f fd):FnOk P w K mg base cy (3) f fd ["_law_x"] (xZ):=by
 obtain ⟨_,_,bx⟩:=T.f__law_text_by;have cC:=iG (P:=P) (w:=w) (base:=base) T bx;refine N.fu.okB fI (fun vs H Q E h=>?_) (fun bq A outer s H vs Q E hr h=>?_)
 ·obtain ⟨n,rfl,_⟩:=h
  rfl
 ·obtain ⟨n,rfl,hn,q⟩:=h;have a0:=Int.emod_nonneg (n / 6) (show (20:Int) ≠ 0 by decide);have a1:=Int.emod_lt_of_pos (n / 6) (show (0:Int) < 20 by decide);have b0:=Int.emod_nonneg (n / 6) (show (4:Int) ≠ 0 by decide);have b1:=Int.emod_lt_of_pos (n / 6) (show (0:Int) < 4 by decide);refine ⟨_,(ag (av (i:=1) fI.nd rfl (by first | exact Or.inl rfl | exact Or.inr rfl) (az aM (bv 0) b_int))
  (ag (av (i:=2) fI.nd rfl (by first | exact Or.inl rfl | exact Or.inr rfl) (az bj (bv 0) b_int))
  (ag (aL (ax sy (bv 1) b_int (au _))
   (ah (aj (aG ak (fw (ai b_str (ai b_str (ai b_str (ai b_str (ai b_str (ai b_str (ai b_str (ai b_str af rfl) rfl) rfl) rfl) rfl) rfl) rfl) rfl)) (az aM (bv 2) b_int) (fun _ _=>rfl))))
   aw)
  (ag (aL (ax (ck (aH hr)) (bv 1) b_int (au _))
   (ah (aj (bF bx cC (hr.mono (by first | decide | omega)) (ai (az bj (bv 2) b_int) (ai (az aW b_int (az aM (bv 2) b_int)) (ai iJ af rfl) rfl) rfl))))
   aw)
  (ag (aL (ax (ck (aH hr)) (bv 1) b_int (au _))
   (ah (aj (bF bx cC (hr.mono (by first | decide | omega)) (ai (az bj (bv 2) b_int) (ai b_int (ai (eW (ck (aH hr)) (az aM (bv 2) b_int) b_int (au _)) af rfl) rfl) rfl))))
   aw)
  (ah (aj (bF bx cC (hr.mono (by first | decide | omega)) (ai (az bj (bv 2) b_int) (ai (az aW b_int (az aM (bv 2) b_int)) (ai (eW (ck (aH hr)) (bv 1) b_int (au _)) af rfl) rfl) rfl))))))))),?_⟩
  kas_types;lcg_off;refine aI (fun h1=>?_) (fun h1=>?_)
  ·lcg_off
   kaf_suf
   intro v hv;obtain ⟨z,rfl,hz⟩:∃ z:Str,v = .str z/\zy z:=by
    simp only [List.mem_cons,List.not_mem_nil,or_false] at hv
    rcases hv with rfl | rfl | rfl | rfl | rfl | rfl | rfl | rfl <;> exact ⟨_,rfl,by decide +kernel,by decide +kernel,by unfold mY;decide +kernel⟩
   clear hv;exact q _ _ hz (by lcg_sub)
  ·lcg_off;refine aI (fun h2=>?_) (fun h2=>?_)
   ·lcg_off;refine fH (by omega) (by omega) (fun z H' hz oz sz=>?_);exact q _ _ ⟨by omega,by omega,oz⟩ sz
   ·lcg_off;refine aI (fun h3=>?_) (fun h3=>?_)
    ·lcg_off;refine fH (by omega) (by omega) (fun z H' hz oz sz=>?_);exact q _ _ ⟨by omega,by omega,oz⟩ sz
    ·lcg_off;refine fH (by omega) (by omega) (fun z H' hz oz sz=>?_);exact q _ _ ⟨by omega,by omega,oz⟩ sz
theorem zJ {n:Int} (hn:0 <= n) (q:∀ (z:Str) H',zy z->Same H H'->Q (.str z) H'):xZ [.int n] H Q E:=⟨n,rfl,hn,q⟩
def okVal (v:V):Prop:=v = .non \/ ∃ z:Str,v = .str z/\z.length <= 40/\mY z
def qi:Sp:=fun vs H Q _=>∃ n:Int,vs = [.int n]/\0 <= n/\∀ v H',okVal v->Same H H'->Q v H'
theorem eg:aq ["_law_x","_law_way","_law_more"] ["_law_x"] (ae bD):=⟨rfl,rfl,rfl,by decide +kernel,rfl,by decide +kernel,by decide +kernel⟩
theorem lD (T:Txt K mg) (N:Fn K mg "_law_value_by" bD ["_law_x"] f fd):FnOk P w K mg base cy (3) f fd ["_law_x"] (qi):=by
 obtain ⟨_,_,bx⟩:=T.f__law_text_by;have cC:=iG (P:=P) (w:=w) (base:=base) T bx;refine N.fu.okB eg (fun vs H Q E h=>?_) (fun bq A outer s H vs Q E hr h=>?_)
 ·obtain ⟨n,rfl,_⟩:=h
  rfl
 ·obtain ⟨n,rfl,hn,q⟩:=h;have a0:=Int.emod_nonneg (n / 5) (show (41:Int) ≠ 0 by decide);have a1:=Int.emod_lt_of_pos (n / 5) (show (0:Int) < 41 by decide);have b0:=Int.emod_nonneg (n / 5) (show (5:Int) ≠ 0 by decide);have b1:=Int.emod_lt_of_pos (n / 5) (show (0:Int) < 5 by decide);refine ⟨_,(ag (av (i:=1) eg.nd rfl (by first | exact Or.inl rfl | exact Or.inr rfl) (az aM (bv 0) b_int))
  (ag (av (i:=2) eg.nd rfl (by first | exact Or.inl rfl | exact Or.inr rfl) (az bj (bv 0) b_int))
  (ag (aL (ax (ck (aH hr)) (bv 1) b_int (au _))
   (ah (aj bB))
   aw)
  (ag (aL (ax (ck (aH hr)) (bv 1) b_int (au _))
   (ah (aj (aG ak (fw (ai b_str (ai b_str (ai b_str (ai b_str (ai b_str (ai b_str af rfl) rfl) rfl) rfl) rfl) rfl)) (az aM (bv 2) b_int) (fun _ _=>rfl))))
   aw)
  (ag (aL (ax (ck (aH hr)) (bv 1) b_int (au _))
   (ah (aj (bF bx cC (hr.mono (by first | decide | omega)) (ai (az bj (bv 2) b_int) (ai (az aM (bv 2) b_int) (ai iJ af rfl) rfl) rfl))))
   aw)
  (ah (aj (bF bx cC (hr.mono (by first | decide | omega)) (ai (az bj (bv 2) b_int) (ai (az aM (bv 2) b_int) (ai iJ af rfl) rfl) rfl))))))))),?_⟩
  kas_types;lcg_off;refine aI (fun h1=>?_) (fun h1=>?_)
  ·lcg_off;exact q _ _ (.inl rfl) (Same.refl _)
  ·lcg_off;refine aI (fun h1=>?_) (fun h1=>?_)
   ·lcg_off
    kaf_suf
    intro v hv;obtain ⟨z,rfl,hz⟩:∃ z:Str,v = .str z/\z.length <= 40/\mY z:=by
     simp only [List.mem_cons,List.not_mem_nil,or_false] at hv
     rcases hv with rfl | rfl | rfl | rfl | rfl | rfl <;> exact ⟨_,rfl,by decide +kernel,by unfold mY;decide +kernel⟩
    clear hv;exact q _ _ (.inr ⟨z,rfl,hz⟩) (by lcg_sub)
   ·lcg_off;refine aI (fun h2=>?_) (fun h2=>?_)
    ·lcg_off;refine fH (by omega) (by omega) (fun z H' hz oz sz=>?_);exact q _ _ (.inr ⟨z,rfl,by omega,oz⟩) sz
    ·lcg_off;refine fH (by omega) (by omega) (fun z H' hz oz sz=>?_);exact q _ _ (.inr ⟨z,rfl,by omega,oz⟩) sz
theorem tH {n:Int} (hn:0 <= n) (q:∀ v H',okVal v->Same H H'->Q v H'):qi [.int n] H Q E:=⟨n,rfl,hn,q⟩
def qk:Sp:=fun vs H Q _=>∃ n:Int,vs = [.int n]/\0 <= n/\∀ (m:Int) H',1 <= m->m < 10 ^ 9->Same H H'->Q (.int m) H'
theorem gR:aq ["_law_x","_law_way"] ["_law_x"] (ae bE):=⟨rfl,rfl,rfl,by decide +kernel,rfl,by decide +kernel,by decide +kernel⟩
theorem lE (T:Txt K mg) (N:Fn K mg "_law_stamp_by" bE ["_law_x"] f fd):FnOk P w K mg base cy (1) f fd ["_law_x"] (qk):=by
 refine N.fu.okB gR (fun vs H Q E h=>?_) (fun bq A outer s H vs Q E hr h=>?_)
 ·obtain ⟨n,rfl,_⟩:=h
  rfl
 ·obtain ⟨n,rfl,hn,q⟩:=h;have a0:=Int.emod_nonneg n (show (6:Int) ≠ 0 by decide);have a1:=Int.emod_lt_of_pos n (show (0:Int) < 6 by decide);refine ⟨_,(ag (av (i:=1) gR.nd rfl (by first | exact Or.inl rfl | exact Or.inr rfl) (az aM (bv 0) b_int))
  (ag (aL (ax sy (bv 1) b_int (au _))
   (ah (aj (az aW b_int (az aM (az bj (bv 0) b_int) (aG ak (fw (ai b_int (ai b_int (ai b_int (ai b_int af rfl) rfl) rfl) rfl)) (bv 1) (fun _ _=>rfl))))))
   aw)
  (ah (aj (aG ak (fw (ai (az aW b_int (az aM (az bj (bv 0) b_int) b_int)) (ai (az iQ b_int (az aM (az bj (bv 0) b_int) b_int)) af rfl) rfl)) (az iQ (bv 1) b_int) (fun _ _=>rfl)))))),?_⟩
  kas_types;lcg_off;refine aI (fun h1=>?_) (fun h1=>?_)
  ·lcg_off;refine jo (SqL.of (by assumption)) (by omega) (by simp;omega) (fun v hv=>?_);obtain ⟨k,rfl,k0,k1⟩:∃ k:Int,v = .int k/\0 < k/\k <= 40:=by
    simp only [List.mem_cons,List.not_mem_nil,or_false] at hv
    rcases hv with rfl | rfl | rfl | rfl <;> exact ⟨_,rfl,by decide,by decide⟩
   clear hv;lcg_off;have c0:=Int.emod_nonneg (n / 6) (show k ≠ 0 by omega);have c1:=Int.emod_lt_of_pos (n / 6) (show (0:Int) < k by omega);exact q _ _ (by omega) (by omega) (by lcg_sub)
  ·lcg_off;refine jo (SqL.of (by assumption)) (by omega) (by simp;omega) (fun v hv=>?_);have c0:=Int.emod_nonneg (n / 6) (show (999999999:Int) ≠ 0 by decide);have c1:=Int.emod_lt_of_pos (n / 6) (show (0:Int) < 999999999 by decide);have d0:=Int.emod_nonneg (n / 6) (show (3:Int) ≠ 0 by decide);have d1:=Int.emod_lt_of_pos (n / 6) (show (0:Int) < 3 by decide);obtain ⟨k,rfl,k0,k1⟩:∃ k:Int,v = .int k/\1 <= k/\k < 10 ^ 9:=by
    simp only [List.mem_cons,List.not_mem_nil,or_false] at hv
    rcases hv with rfl | rfl
    ·exact ⟨_,rfl,by omega,by omega⟩
    ·exact ⟨_,rfl,by omega,by omega⟩
   clear hv;exact q _ _ k0 k1 (by lcg_sub)
theorem tX {n:Int} (hn:0 <= n) (q:∀ (m:Int) H',1 <= m->m < 10 ^ 9->Same H H'->Q (.int m) H'):qk [.int n] H Q E:=⟨n,rfl,hn,q⟩
def A7:Sp:=fun vs H Q _=>∃ (w:Str) (n:Int),vs = [.str w,.int n]/\zy w/\0 <= n/\∀ (z:Str),zy z->Q (.str z) H
theorem fA:aq ["_law_named","_law_x","_law_way","_law_at","_law_sign"] ["_law_named","_law_x"] (ae de):=⟨rfl,rfl,rfl,by decide +kernel,rfl,by decide +kernel,by decide +kernel⟩
theorem kz (T:Txt K mg) (N:Fn K mg "_law_near" de ["_law_named","_law_x"] f fd):FnOk P w K mg base cy (1) f fd ["_law_named","_law_x"] (A7):=by
 refine N.fu.okB fA (fun vs H Q E h=>?_) (fun bq A outer s H vs Q E hr h=>?_)
 ·obtain ⟨w,n,rfl,_⟩:=h
  rfl
 ·obtain ⟨w,n,rfl,hw,hn,q⟩:=h;obtain ⟨w1,w2,w3⟩:=hw;have a0:=Int.emod_nonneg (n / 5) (show (w.length:Int) ≠ 0 by omega);have a1:=Int.emod_lt_of_pos (n / 5) (show (0:Int) < w.length by omega);have Zf:w.length <= sizeLine:=by rw [sizeLine_eq];omega
  refine ⟨_,(ag (av (i:=2) fA.nd rfl (by first | exact Or.inl rfl | exact Or.inr rfl) (az aM (bv 1) b_int))
  (ag (av (i:=3) fA.nd rfl (by first | exact Or.inl rfl | exact Or.inr rfl) (az aM (az bj (bv 1) b_int) (eZ bT T.b_len (by kernel_rfl) (ai (bv 0) af rfl))))
  (ag (av (i:=4) fA.nd rfl (by first | exact Or.inl rfl | exact Or.inr rfl) (aG ak b_str (az aM (az bj (bv 1) b_int) b_int) (fun _ _=>rfl)))
  (ag (aL (eF (fh (ax (ck (aH hr)) (bv 2) b_int (au _)) (d6 (ax sy (eZ bT T.b_len (by kernel_rfl) (ai (bv 0) af rfl)) b_int (au _)))))
   (ah (aj (az aW (az aW (cn eO (bv 0) cA (bY (bv 3))) (bv 4)) (cn eO (bv 0) (bY (bv 3)) cA))))
   aw)
  (ag (aL (eF (fh (ax (ck (aH hr)) (bv 2) b_int (au _)) (d6 (ax nX (eZ bT T.b_len (by kernel_rfl) (ai (bv 0) af rfl)) b_int (au _)))))
   (ah (aj (az aW (cn eO (bv 0) cA (bY (bv 3))) (cn eO (bv 0) (bY (az aW (bv 3) b_int)) cA))))
   aw)
  (ag (aL (eF (fh (ax (ck (aH hr)) (bv 2) b_int (au _)) (d6 (ax sy (eZ bT T.b_len (by kernel_rfl) (ai (bv 0) af rfl)) b_int (au _)))))
   (ah (aj (az aW (bv 0) (bv 4))))
   aw)
  (ah (aj (az aW (az aW (cn eO (bv 0) cA (bY (bv 3))) (bv 4)) (cn eO (bv 0) (bY (az aW (bv 3) b_int)) cA)))))))))),?_⟩
  kas_types;lcg_off;generalize n / 5 % (w.length:Int) = k at *;have h5:(Str.ofString "ab~ c").length <= sizeLine:=by rw [sizeLine_eq];decide +kernel
  obtain ⟨ch,pM,vk⟩:=vP (xs:=(Str.ofString "ab~ c").cps.toList) (i:=n / 100 % 5) (Int.emod_nonneg _ (by decide)) (by rw [<- len_list];exact Int.emod_lt_of_pos _ (by decide));refine wR h5 pM ?_;have c1:(⟨#[ch]⟩:Str).length = 1:=rfl;have occ:mY (⟨#[ch]⟩:Str):=by
   have:(Str.ofString "ab~ c").cps.toList.all eC = true:=by decide +kernel
   unfold mY;show ([ch]:List Nat).all eC = true;rw [List.all_cons,List.all_nil,List.all_eq_true.mp this ch vk]
   rfl
  generalize (⟨#[ch]⟩:Str) = cc at *;have lt:=Jc w a0 (by omega);have lf:=len_from w a0 (by omega);have lg:=len_from w (j:=k + 1) (by omega) (by omega);have ot:=IX a0 w3;have of':=uM a0 w3;have og:=uM (j:=k + 1) (by omega) w3;generalize n % 5 = r5 at *;have last:∀ {D:Ends},D.rt = Q->DN (An (jH K) (An (jH K) (KG (zf K) (rG 0) kh (tR (rG 3))) (rG 4)) (KG (zf K) (rG 0) (tR (An (jH K) (rG 3) (tC (V.int 1)))) kh)) D [some (.str w),some (.int n),some (.int r5),some (.int k),some (.str cc)] H:=fun {D} hD=>by
   lcg_off;refine ly (by omega) ?_;lcg_off;refine jr (by omega) (by assumption) (by assumption) (fun z1 NV oz1=>?_);lcg_off;refine ly (by omega) ?_;lcg_off;refine jr (by omega) (by assumption) (by assumption) (fun z2 Kh QG=>?_);rw [hD];exact q _ ⟨by omega,by omega,by assumption⟩
  lcg_off;refine aI (fun h1=>?_) (fun h1=>?_)
  ·subst h1;lcg_off;refine aI (fun h2=>?_) (fun h2=>?_)
   ·lcg_off;refine ly (by omega) ?_;lcg_off;refine jr (by omega) (by assumption) (by assumption) (fun z1 NV oz1=>?_);lcg_off;refine ly (by omega) ?_;lcg_off;refine jr (by omega) (by assumption) (by assumption) (fun z2 Kh QG=>?_);exact q _ ⟨by omega,by omega,by assumption⟩
   ·lcg_off;rw [if_neg (by decide)];rw [if_neg (by decide)];lcg_off;rw [if_neg (by decide)];rw [if_neg (by decide)];exact last rfl
  ·rw [if_neg (by decide)];lcg_off;refine aI (fun h2=>?_) (fun h2=>?_)
   ·subst h2;lcg_off;refine aI (fun h3=>?_) (fun h3=>?_)
    ·lcg_off;refine ly (by omega) ?_;lcg_off;refine ly (by omega) ?_;lcg_off;refine jr (by omega) (by assumption) (by assumption) (fun z2 Kh QG=>?_);exact q _ ⟨by omega,by omega,by assumption⟩
    ·lcg_off;rw [if_neg (by decide)];rw [if_neg (by decide)];exact last rfl
   ·rw [if_neg (by decide)];lcg_off;refine aI (fun h3=>?_) (fun h3=>?_)
    ·lcg_off;refine aI (fun h4=>?_) (fun h4=>?_)
     ·lcg_off;refine jr (by omega) (by assumption) (by assumption) (fun z2 Kh QG=>?_);exact q _ ⟨by omega,by omega,by assumption⟩
     ·exact last rfl
    ·rw [if_neg (by decide)];exact last rfl
theorem uS {w:Str} {n:Int} (hw:zy w) (hn:0 <= n) (q:∀ (z:Str),zy z->Q (.str z) H):A7 [.str w,.int n] H Q E:=⟨w,n,rfl,hw,hn,q⟩
end
section
abbrev Ent:=Str × Int × Option Str
def oD:Option Str->D
 | none=>.non
 | some z=>.str z
def aC (e:Ent):D:=.tup [.str e.1,.int e.2.1,oD e.2.2]
def gT (e:Ent):RK:=(e.1,-e.2.1)
def QH:Option Str->Prop
 | none=>True
 | some z=>z.length <= 40/\mY z
def tD (e:Ent):Prop:=zy e.1/\(1 <= e.2.1/\e.2.1 < 10 ^ 9)/\QH e.2.2
theorem okVal.rep (h:okVal v) (H:Hp):∃ o,Rep H (oD o) v/\QH o:=by
 rcases h with rfl | ⟨z,rfl,hz⟩
 ·exact ⟨none,Rep.non',trivial⟩
 ·exact ⟨some z,Rep.str',hz⟩
theorem cG (h:Rep H (aC e) v):∃ a x,v = .ref a/\H a = some (.tup [.str e.1,.int e.2.1,x])/\Rep H (oD e.2.2) x:=by
 unfold aC at h;simp only [Rep,Reps] at h;obtain ⟨a,vs,rfl,ha,v1,r1,rfl,rfl,v2,r2,rfl,rfl,v3,r3,rfl,h3,rfl⟩:=h;exact ⟨a,v3,rfl,ha,h3⟩
theorem sI {x:V} (ha:H a = some (.tup [.str e.1,.int e.2.1,x])) (hx:Rep H (oD e.2.2) x):Rep H (aC e) (.ref a):=by
 unfold aC;simp only [Rep,Reps];exact ⟨a,_,rfl,ha,_,_,rfl,rfl,_,_,rfl,rfl,_,_,rfl,hx,rfl⟩
def IY (kv:List Key × V):Prop:=∃ (w:Str) (s:Int),kv.1 = [.inr w,.inl s]/\(zy w/\1 <= s/\s < 10 ^ 9)/\okVal kv.2
theorem Er {aF:List (List Key × V)} {w:Str} {s:Int} (h:∀ kv ∈ aF,IY kv) (hs:zy w/\1 <= s/\s < 10 ^ 9) (hv:okVal v):∀ kv ∈ putK aF [.inr w,.inl s] v,IY kv:=by
 unfold putK
 split
 ·intro kv hk;obtain ⟨Y6,h0,rfl⟩:=List.mem_map.mp hk
  split
  ·obtain ⟨w',s',e,z,_⟩:=h Y6 h0;exact ⟨w',s',e,z,hv⟩
  ·exact h Y6 h0
 ·intro kv hk
  rcases List.mem_append.mp hk with h1 | h1
  ·exact h kv h1
  ·rw [List.mem_singleton.mp h1];exact ⟨w,s,rfl,hs,hv⟩
theorem Et [DecidableEq κ] {aF:List (κ × V)} {k:κ} (h:(aF.map (·.1)).Nodup):((putK aF k v).map (·.1)).Nodup:=by
 unfold putK
 split
 ·rw [List.map_map];have e:((fun x:κ × V=>x.1) ∘ fun kv=>if kv.1 = k then (kv.1,v) else kv) = fun x=>x.1:=by
   funext kv
   show (if kv.1 = k then (kv.1,v) else kv).1 = kv.1
   split <;> rfl
  rw [e];exact h
 ·next hn =>
  rw [List.map_append,List.nodup_append];refine ⟨h,List.pairwise_singleton _ _,fun x hx y hy z=>hn ?_⟩;obtain ⟨kv,h1,rfl⟩:=List.mem_map.mp hx;have CI:y = k:=by simpa using hy
  exact List.any_eq_true.mpr ⟨kv,h1,decide_eq_true (z.trans CI)⟩
theorem Ay {κ:Type} [DecidableEq κ]:∀ {aF:List (κ × V)} {i:Nat} {k:κ} {v:V},(aF.map (·.1)).Nodup->aF[i]? = some (k,v)->jO aF k = some v
 | [],i,k,v,_,h=>by simp at h
 | kv :: aF,0,k,v,nd,h=>by
  simp at h;subst h;unfold jO;rw [List.find?_cons_of_pos (by simp)]
  rfl
 | kv :: aF,i + 1,k,v,nd,h=>by
  rw [List.map_cons,List.nodup_cons] at nd;have h':aF[i]? = some (k,v):=by simpa using h
  have ne:kv.1 ≠ k:=fun z=>nd.1 (by rw [z];exact List.mem_map.mpr ⟨(k,v),List.mem_of_getElem? h',rfl⟩)
  have:=Ay nd.2 h';unfold jO at this ⊢;rw [List.find?_cons_of_neg (by simpa using ne)];exact this
theorem Reps.snoc {H:Hp}:∀ {ds:List D} {vs:List V} {d:D} {v:V},Reps H ds vs->Rep H d v->Reps H (ds ++ [d]) (vs ++ [v])
 | [],vs,d,v,h,h'=>by
  simp only [Reps] at h;subst h;simp only [List.nil_append,Reps];exact ⟨v,[],rfl,h',rfl⟩
 | e :: ds,vs,d,v,h,h'=>by
  simp only [Reps] at h;obtain ⟨u,r,rfl,h1,h2⟩:=h;simp only [List.cons_append,Reps];exact ⟨u,r ++ [v],rfl,h1,Reps.snoc h2 h'⟩
theorem SR {o : Obj} {aF : List (List Key × V)} {ix : List Nat} {te : TE} (W : Nat -> List V -> Hp -> Prop) (hz : aF.length <= sizeLine) (h0 : W 0 [] H) (hl : ∀ i ys H', W i ys H' -> H' a = some (.frz o (.dT aF)) /\ ys.length = i)
    (hE:∀ i k v b ys H',aF[i]? = some (k,v)->H' b = some (.tup (k.map kV))->W i ys H'->te (some (.ref b) :: pick ix σ) H' fun y H5=>W (i + 1) (ys ++ [y]) H5)
    (hQ:∀ ys p H' H1,W aF.length ys H'->H' p = none->Same H' H1->H1 p = some (.lst ys)->Q (.ref p) H1):Au (Og a o aF) ix σ tP te Q H:=by
 refine ⟨fun i m ys H2=>m = aF.length - i/\i <= aF.length/\W i ys H2,⟨aF.length,by simp,Nat.zero_le _,h0⟩,?_⟩
 rintro i m ys H2 ⟨rfl,hi,w⟩;obtain ⟨q,e⟩:=hl i ys H2 w
 by_cases ed:i < aF.length
 ·refine .inr ⟨⟨q,ed⟩,by omega,fun x H3 y=>?_⟩
  obtain ⟨rfl,b,k,v,y,rfl,hb⟩:=y;show te _ _ _;rw [show (fun y H5=>∃ m',m' < aF.length - i/\m' = aF.length - (i + 1)/\i + 1 <= aF.length/\W (i + 1) (ys ++ [y]) H5) = fun y H5=>W (i + 1) (ys ++ [y]) H5 from ?_]
  ·exact hE i k v b ys _ y hb w
  ·funext y H5
   apply propext;exact ⟨fun ⟨m',_,_,_,h⟩=>h,fun h=>⟨aF.length - (i + 1),by omega,rfl,ed,h⟩⟩
 ·have:i = aF.length:=by omega
  subst this;exact .inl ⟨⟨q,Nat.le_refl _⟩,fun D hD=>hQ ys D H2 _ w hD (aU hD) aE⟩
theorem qy {H:Hp}:∀ (ns:List Str),Reps H (ns.map L2.D.str) (ns.map V.str)
 | []=>by simp only [List.map_nil,Reps]
 | n :: ns=>by simp only [List.map_cons,Reps,Rep];exact ⟨_,_,rfl,rfl,qy ns⟩
theorem vC:∀ {ns:List Str},L2.D.deps (ns.map L2.D.str) = 0
 | []=>by simp [D.deps]
 | n :: ns=>by
  have:=vC (ns:=ns);simp only [List.map_cons,D.deps,D.dep];omega
theorem E3 {ws:List Str} (h:H p = some (.lst (ws.map V.str))) (h':H p' = some (.lst [])) (q:Q (.bl (!decide (ws = []))) H):rR (.ref p) (.ref p') H Q:=by
 refine ⟨.lst (ws.map L2.D.str),.lst [],by simp only [Rep];exact ⟨p,_,rfl,h,qy ws⟩,by simp only [Rep];exact ⟨p',[],rfl,h',by simp only [Reps]⟩,by simp only [D.dep,vC];omega,by simp [D.dep,D.deps],?_⟩;have e:aK (.lst (ws.map L2.D.str)) (.lst []) = decide (ws = []):=by
  cases ws with
  | nil=>simp [aK,eQ]
  | cons e r=>simp [aK,eQ]
 rw [e];exact q
theorem Es [DecidableEq κ] {aF:List (κ × V)} {k:κ}:putK aF k v ≠ []:=by
 unfold putK
 split
 ·next h =>
  intro z;rw [List.map_eq_nil_iff] at z;rw [z] at h;simp at h
 ·simp
def ub:Sp:=fun vs H Q _=>∃ c:Int,vs = [.int c]/\∀ m:Int,1 <= m->m <= 199->Q (.int m) H
theorem mE:aq ["_law_cell"] ["_law_cell"] (ae bO):=⟨rfl,rfl,rfl,by decide +kernel,rfl,by decide +kernel,by decide +kernel⟩
theorem mK (T:Txt K mg) (N:Fn K mg "_law_many_by" bO ["_law_cell"] f fd):FnOk P w K mg base cy (1) f fd ["_law_cell"] (ub):=by
 refine N.fu.okB mE (fun vs H Q E h=>?_) (fun bq A outer s H vs Q E hr h=>?_)
 ·obtain ⟨c,rfl,_⟩:=h
  rfl
 ·obtain ⟨c,rfl,q⟩:=h;have a0:=Int.emod_nonneg (c / 12) (show (140:Int) ≠ 0 by decide);have a1:=Int.emod_lt_of_pos (c / 12) (show (0:Int) < 140 by decide);have b0:=Int.emod_nonneg (c / 12) (show (14:Int) ≠ 0 by decide);have b1:=Int.emod_lt_of_pos (c / 12) (show (0:Int) < 14 by decide);refine ⟨_,(ag (aL (ax (ck (aH hr)) (az aM (bv 0) b_int) b_int (au _))
   (ah (aj (az aW b_int (az aM (az bj (bv 0) b_int) b_int))))
   aw)
  (ah (aj (az aW b_int (az aM (az bj (bv 0) b_int) b_int))))),?_⟩
  kas_types;lcg_off;refine aI (fun h1=>?_) (fun h1=>?_)
  ·lcg_off;exact q _ (by omega) (by omega)
  ·lcg_off;exact q _ (by omega) (by omega)
theorem xn (q:∀ m:Int,1 <= m->m <= 199->Q (.int m) H):ub [.int c] H Q E:=⟨c,rfl,q⟩
def lV (K:W.Frag):Sp:=fun vs H Q _=>∃ c m:Int,vs = [.int c,.int m]/\1 <= m/\m <= 199/\∀ p H' (xs:List V) (es:List Ent),H p = none->Same H H'->H' p = some (.lst xs)->Reps H' (es.map aC) xs->(es.map gT).Nodup->es.length <= 199->1 <= es.length->(∀ e ∈ es,tD e)->Q (.ref p) H'
theorem aO:aq ["_law_cell","_law_many","_law_xs","_law_found","_law_keys","_law_k","_law_named"] ["_law_cell","_law_many"] (ae aS):=⟨rfl,rfl,rfl,by decide +kernel,rfl,by decide +kernel,by decide +kernel⟩
theorem jZ (T:Txt K mg) (N:Fn K mg "_law_entries_by" aS ["_law_cell","_law_many"] f fd):FnOk P w K mg base cy (4) f fd ["_law_cell","_law_many"] (lV K):=by
 obtain ⟨_,_,bJ⟩:=T.f__law_stream;have dz:=fR (P:=P) (w:=w) (base:=base) T bJ;obtain ⟨_,_,jN⟩:=T.f__law_key_by;have qa:=oe (P:=P) (w:=w) (base:=base) T jN;obtain ⟨_,_,iH⟩:=T.f__law_value_by;have mU:=lD (P:=P) (w:=w) (base:=base) T iH;obtain ⟨_,_,eY⟩:=T.f__law_near;have jh:=kz (P:=P) (w:=w) (base:=base) T eY;obtain ⟨_,_,iI⟩:=T.f__law_stamp_by;have mV:=lE (P:=P) (w:=w) (base:=base) T iI;refine N.fu.okB aO (fun vs H Q E h=>?_) (fun bq A outer s H vs Q E hr h=>?_)
 ·obtain ⟨c,m,rfl,_⟩:=h
  rfl
 ·obtain ⟨c,m,rfl,h0,hm,q⟩:=h;refine ⟨_,(ag (av (i:=2) aO.nd rfl (by first | exact Or.inl rfl | exact Or.inr rfl) (bF bJ dz (hr.mono (by first | decide | omega)) (ai (bv 0) (ai (az ft b_int (bv 1)) af rfl) rfl)))
  (ag (av (i:=3) aO.nd rfl (by first | exact Or.inl rfl | exact Or.inr rfl) FI)
  (ag (av (i:=4) aO.nd rfl (by first | exact Or.inl rfl | exact Or.inr rfl) (fw af))
  (ag (fi PassesOwn.never rfl (vM T.b_range (ai (bv 1) af rfl)) (dD (i:=5) aO.nd rfl (by first | exact Or.inl rfl | exact Or.inr rfl))
   (ag (av (i:=6) aO.nd rfl (by first | exact Or.inl rfl | exact Or.inr rfl) (bF jN qa (hr.mono (by first | decide | omega)) (ai (aG ak (bv 2) (az ft b_int (bv 5)) (fun _ _=>rfl)) af rfl)))
  (ag (aL (eF (fh (ax (hU (aH hr)) (bv 4) (fw af) (au _)) (d6 (ax nX (az aM (aG ak (bv 2) (az aW (az ft b_int (bv 5)) b_int) (fun _ _=>rfl)) b_int) b_int (au _)))))
   (ag (av (i:=6) aO.nd rfl (by first | exact Or.inl rfl | exact Or.inr rfl) (aG ak (bv 4) (az aM (az bj (aG ak (bv 2) (az aW (az ft b_int (bv 5)) b_int) (fun _ _=>rfl)) b_int) (eZ bT T.b_len (by kernel_rfl) (ai (bv 4) af rfl))) (fun _ _=>rfl)))
  (ah (aL (ax (ck (aH hr)) (az aM (az bj (aG ak (bv 2) (az aW (az ft b_int (bv 5)) b_int) (fun _ _=>rfl)) b_int) b_int) b_int (au _))
   (ah (av (i:=6) aO.nd rfl (by first | exact Or.inl rfl | exact Or.inr rfl) (bF eY jh (hr.mono (by first | decide | omega)) (ai (bv 6) (ai (aG ak (bv 2) (az ft b_int (bv 5)) (fun _ _=>rfl)) af rfl) rfl))))
   aw)))
   aw)
  (ag (aL (ax rX (bv 6) (bv 4) rfl)
   (ah (ni (lO (bv 4) (ai (bv 6) af rfl))))
   aw)
  (ah (Dk (GO hr) (bv 3) (jb (ai (bv 6) (ai (bF iI mV (hr.mono (by first | decide | omega)) (ai (aG ak (bv 2) (az aW (az ft b_int (bv 5)) b_int) (fun _ _=>rfl)) af rfl)) af rfl) rfl)) (bF iH mU (hr.mono (by first | decide | omega)) (ai (aG ak (bv 2) (az aW (az ft b_int (bv 5)) b_int) (fun _ _=>rfl)) af rfl))))))))
  (ah (aj (j7 (x:="_law_pair") (ix:=[3]) (fv:=["_law_found"]) (osc:=ae aS) rfl ⟨rfl,by decide +kernel,by decide +kernel,by rfl,by decide +kernel,by decide +kernel,by decide +kernel⟩ (by rfl) (FH (bv 3)) (fun _ _ _ _=>fj) (fun _ _ _ _=>(jb (ai (aG (cR (K:=K) rfl) (bv 0) b_int (fun _ _=>rfl)) (ai (aG (cR (K:=K) rfl) (bv 0) b_int (fun _ _=>rfl)) (ai (FJ (GO hr) (bv 1) (bv 0) (fun _ _=>rfl)) af rfl) rfl) rfl)))))))))),?_⟩
  kas_types;lcg_off;refine jP (by omega) (by omega) (fun px Hx ns hpx sx hx hlx hnx=>?_);lcg_off;refine BB (fun d Hd DI sd hd=>?_);lcg_off;rename_i pk Hk GU sk hk;have N5:Hk d = some (.dT []):=sk _ _ hd;have Ue:Hk px = some (.lst (ns.map V.int)):=sk _ _ (sd _ _ hx);have sHk:Same H Hk:=Same.tr sk (Same.tr sd sx);have Zp:H d = none:=Same.free sx DI;have hkH:H pk = none:=Same.free (Same.tr sd sx) GU;have Y0:d ≠ pk:=fun z=>by rw [z,hk] at N5;cases N5
  have nxd:px ≠ d:=fun z=>by rw [z,N5] at Ue;cases Ue
  have nxk:px ≠ pk:=fun z=>by rw [<- z,sd _ _ hx] at GU;cases GU
  clear sx sd sk hx hd DI GU hpx;have JY:∀ {G:Hp} {i:Nat} {x:Int} {Q':VK} (j:Nat),i < m.toNat->j < 4->x = 4 * (i:Int) + (j:Int)->G px = some (.lst (ns.map V.int))->(∀ n:Int,0 <= n->Q' (.int n) G)->En K (.ref px) (.int x) G Q':=fun {G i x Q'} j hi hj hx hG q'=>by
   obtain ⟨k,rfl⟩:∃ k:Nat,x = k:=⟨4 * i + j,by rw [hx];omega⟩;have hl:k < ns.length:=by omega
   refine dU (SqL.of hG) (bZ (v:=.int ns[k]) (by rw [List.getElem?_map,List.getElem?_eq_getElem hl];rfl)) ?_;exact q' _ (hnx _ (List.getElem_mem hl))
  refine forR (fun i σ H'=>∃ (aF:List (List Key × V)) (ws:List Str) (o5 o6:Option V),σ = [some (.int c),some (.int m),some (.ref px),some (.ref d),some (.ref pk),o5,o6]/\Same H H'/\H' d = some (.dT aF)/\H' pk = some (.lst (ws.map V.str))/\H' px = some (.lst (ns.map V.int))/\(∀ kv ∈ aF,IY kv)/\(aF.map (·.1)).Nodup/\aF.length <= i/\(i = 0 \/ aF ≠ [])/\ws.length <= i/\(∀ w ∈ ws,zy w))
   ⟨[],[],none,none,rfl,sHk,N5,hk,Ue,fun kv h=>(nomatch h),List.nodup_nil,Nat.le_refl _,.inl rfl,Nat.le_refl _,fun w h=>(nomatch h)⟩ (fun i σ H' hi h=>?_) (fun σ H' h=>?_)
  ·obtain ⟨aF,ws,o5,o6,rfl,sH,gd,gk,gx,UW,Mm,gl,_,gwl,gw⟩:=h;lcg_off;refine JY 0 hi (by decide) (by omega) gx (fun n0 Zi=>?_)
   lcg_off;refine zJ Zi (fun z0 H1 Y9 s1=>?_);kpt_turns;dsimp only;have ZE:=s1 _ _ gk;have ZA:=s1 _ _ gx;refine x' (fun σ' G=>∃ z:Str,zy z/\σ' = [some (.int c),some (.int m),some (.ref px),some (.ref d),some (.ref pk),some (.int (0 + (i:Int))),some (.str z)]/\Same H1 G) (fun nx hx=>?_) (fun σ' G h=>?_)
   ·lcg_off;rename_i pe Ge Zh se he;have ZD:=se _ _ ZE;have N8:=se _ _ ZA;refine E3 ZD he ⟨_,rfl,?_⟩
    by_cases w0:ws = []
    ·rw [if_neg (by simp [w0])];rw [if_neg (by simp)];exact hx _ _ ⟨z0,Y9,rfl,se⟩
    ·have aaZ:=List.length_pos_iff.mpr w0;rw [if_pos (by simp [w0])];lcg_off;refine JY 1 hi (by decide) (by omega) N8 (fun n1 N1=>?_)
     lcg_off;refine aI (fun c1=>?_) (fun c1=>?_)
     ·lcg_off;refine JY 1 hi (by decide) (by omega) N8 (fun n2 JA=>?_);lcg_off;refine Bv (by rw [List.length_map];omega) ?_;refine jo (SqL.of ZD) (Int.emod_nonneg _ (by rw [List.length_map];omega)) (Int.emod_lt_of_pos _ (by rw [List.length_map];omega)) (fun u hu=>?_);obtain ⟨z1,NV,rfl⟩:=List.mem_map.mp hu;lcg_off;refine JY 1 hi (by decide) (by omega) N8 (fun n3 hn3=>?_);lcg_off;refine aI (fun c2=>?_) (fun c2=>?_)
      ·lcg_off;refine JY 0 hi (by decide) (by omega) N8 (fun n4 hn4=>?_);lcg_off;refine uS (gw z1 NV) hn4 (fun z2 Kh=>?_);exact hx _ _ ⟨z2,Kh,rfl,se⟩
      ·exact hx _ _ ⟨z1,gw z1 NV,rfl,se⟩
     ·exact hx _ _ ⟨z0,Y9,rfl,se⟩
   ·obtain ⟨z,hz,rfl,sG⟩:=h;have Ks:=sG _ _ ZE;have Zz:=sG _ _ ZA;have ZF:=sG _ _ (s1 _ _ gd);have Kc:Same H G:=Same.tr sG (Same.tr s1 sH);refine x' (fun σ' G2=>∃ Kw:List Str,σ' = [some (.int c),some (.int m),some (.ref px),some (.ref d),some (.ref pk),some (.int (0 + (i:Int))),some (.str z)]/\Same H G2/\G2 d = some (.dT aF)/\G2 pk = some (.lst (Kw.map V.str))/\G2 px = some (.lst (ns.map V.int))/\Kw.length <= i + 1/\(∀ w ∈ Kw,zy w)) (fun nx hx=>?_) (fun σ' G2 h=>?_)
    ·lcg_off;refine Ig (SqL.of Ks) (fun bb=>?_);lcg_off
     cases bb with
     | false =>
      rw [if_neg (by simp)];exact hx _ _ ⟨ws,rfl,Kc,ZF,Ks,Zz,by omega,gw⟩
     | true =>
      rw [if_pos rfl];lcg_off;refine jq Ks (by rw [List.length_map,sizeLine_eq];omega) ?_;lcg_off;refine hx _ _ ⟨ws ++ [z],rfl,gS Kc hkH,by rw [aD Y0];exact ZF,by rw [aE,List.map_append];rfl,by rw [aD nxk];exact Zz,by rw [List.length_append];simp;omega,fun w hw=>(List.mem_append.mp hw).elim (gw w) (fun e=>by rw [List.mem_singleton.mp e];exact hz)⟩
    ·obtain ⟨Kw,rfl,k1,k2,k3,k4,k5,k6⟩:=h;lcg_off;refine JY 3 hi (by decide) (by omega) k4 (fun n5 LW=>?_)
     lcg_off;refine tH LW (fun v H5 hv s5=>?_);lcg_off;refine JY 2 hi (by decide) (by omega) (s5 _ _ k4) (fun n6 hn6=>?_);lcg_off;refine tX hn6 (fun st H6 st1 DY s6=>?_);lcg_off;rename_i b H7 s7 hb7;have NK:Same G2 H7:=Same.tr s7 (Same.tr s6 s5);refine Bz (k:=[.inr z,.inl st]) (NK _ _ k2) hb7 (by rw [sizeLine_eq];omega) ?_;have hlp:=iV aF ([.inr z,.inl st]:List Key) v;exact ⟨_,Kw,_,_,rfl,gS (Same.tr NK k1) Zp,aE,by rw [aD (Ne.symm Y0)];exact NK _ _ k3,by rw [aD nxd];exact NK _ _ k4,Er UW ⟨hz,st1,DY⟩ hv,Et Mm,by omega,.inr Es,k5,k6⟩
  ·obtain ⟨aF,ws,o5,o6,rfl,sH,gd,gk,gx,UW,Mm,gl,gne,gwl,gw⟩:=h;have hne:aF ≠ []:=gne.resolve_left (by omega);lcg_off;refine ⟨d,aF,rfl,gd,fun o=>?_⟩
   have sF:Same H (upd H' d (.frz o (.dT aF))):=gS sH Zp;have gF:upd H' d (.frz o (.dT aF)) d = some (.frz o (.dT aF)):=aE;generalize upd H' d (.frz o (.dT aF)) = HF at *;refine SR (fun i ys G=>Same HF G/\∃ es:List Ent,Reps G (es.map aC) ys/\es.length = i/\es.map (fun e=>([.inr e.1,.inl e.2.1]:List Key)) = (aF.map (·.1)).take i/\∀ e ∈ es,tD e) (by rw [sizeLine_eq];omega) ⟨Same.refl _,[],by simp only [List.map_nil,Reps],rfl,rfl,fun e h=>(nomatch h)⟩ (fun i ys G h=>?_) (fun i k v b ys G hk hb h=>?_) (fun ys D G G1 h hD sD hG=>?_)
   ·obtain ⟨s1,es,h1,h2,h3,h4⟩:=h;exact ⟨s1 _ _ gF,by rw [<- h1.length,List.length_map,h2]⟩
   ·obtain ⟨s1,es,h1,h2,h3,h4⟩:=h;obtain ⟨wd,st,ek,CK,hv⟩:=UW (k,v) (List.mem_of_getElem? hk);dsimp only at ek CK hv;subst ek;have yA:G b = some (.tup [.str wd,.int st]):=hb;lcg_off;refine ⟨d,v,rfl,.inr ⟨aF,[.inr wd,.inl st],b,.inr ⟨o,s1 _ _ gF⟩,rfl,hb,(Ay Mm hk).symm⟩,?_⟩;lcg_off;rename_i b4 G4 s4 UM;obtain ⟨ov,hov,hoo⟩:=hv.rep G4;refine ⟨Same.tr s4 s1,es ++ [(wd,st,ov)],?_,by rw [List.length_append,h2];rfl,?_,fun e he=>(List.mem_append.mp he).elim (h4 e) (fun z=>by rw [List.mem_singleton.mp z];exact ⟨CK.1,CK.2,hoo⟩)⟩
    ·rw [List.map_append];exact Reps.snoc (h1.same s4) (sI UM hov)
    ·rw [List.map_append,h3,List.take_succ_eq_append_getElem (by rw [List.length_map];exact (List.getElem?_eq_some_iff.mp hk).1)]
     congr 1
     obtain ⟨ed,e⟩:=List.getElem?_eq_some_iff.mp hk;rw [List.getElem_map,e]
     rfl
   ·obtain ⟨s1,es,h1,h2,h3,h4⟩:=h;rw [List.take_of_length_le (by rw [List.length_map];exact Nat.le_refl _)] at h3;have CO:=List.length_pos_iff.mpr hne;refine q D _ ys es (Same.free sF (Same.free s1 hD)) (Same.tr sD (Same.tr s1 sF)) hG (h1.same sD) ?_ (by omega) (by omega) h4;rw [<- h3] at Mm;refine iz (f:=fun r:RK=>([.inr r.1,.inl (-r.2)]:List Key)) ?_
    rw [List.map_map];have e:((fun r:RK=>([.inr r.1,.inl (-r.2)]:List Key)) ∘ gT) = fun e:Ent=>([.inr e.1,.inl e.2.1]:List Key):=by
     funext e
     show [Sum.inr e.1,Sum.inl (- -e.2.1)] = _;rw [Int.neg_neg]
    rw [e];exact Mm
theorem p6 (h0:1 <= m) (hm:m <= 199) (q:∀ p H' (xs:List V) (es:List Ent),H p = none->Same H H'->H' p = some (.lst xs)->Reps H' (es.map aC) xs->(es.map gT).Nodup->es.length <= 199->1 <= es.length->(∀ e ∈ es,tD e)->Q (.ref p) H'):lV K [.int c,.int m] H Q E:=⟨c,m,rfl,h0,hm,q⟩
end
section
def LF (H:Hp):V->RK
 | .ref a=>match H a with
  | some (.tup (.str k :: .int s :: _))=>(k,-s)
  | _=>(⟨#[]⟩,0)
 | _=>(⟨#[]⟩,0)
theorem kf_at (h:Rep H (aC e) v):LF H v = gT e:=by
 obtain ⟨a,x,rfl,ha,_⟩:=cG h;unfold LF;dsimp only;rw [ha]
 rfl
def dR (es:List Ent):Prop:=es.Pairwise fun a b=>eT (gT a) (gT b) = true
theorem bR {H:Hp}:∀ {es:List Ent} {xs:List V},Reps H (es.map aC) xs->∃ L:List (Ent × V),L.map (·.1) = es/\L.map (·.2) = xs/\∀ t ∈ L,Rep H (aC t.1) t.2
 | [],xs,h=>by
  simp only [List.map_nil,Reps] at h;subst h;exact ⟨[],rfl,rfl,fun t h=>(nomatch h)⟩
 | e :: es,xs,h=>by
  simp only [List.map_cons,Reps] at h;obtain ⟨v,r,rfl,h1,h2⟩:=h;obtain ⟨L,l1,l2,l3⟩:=bR h2;refine ⟨(e,v) :: L,by rw [List.map_cons,l1],by rw [List.map_cons,l2],fun t ht=>?_⟩
  rcases List.mem_cons.mp ht with rfl | ht
  ·exact h1
  ·exact l3 t ht
theorem jY {H:Hp}:∀ {L:List (Ent × V)},(∀ t ∈ L,Rep H (aC t.1) t.2)->Reps H ((L.map (·.1)).map aC) (L.map (·.2))
 | [],_=>by simp only [List.map_nil,Reps]
 | t :: L,h=>by
  simp only [List.map_cons,Reps];exact ⟨_,_,rfl,h t List.mem_cons_self,jY fun u hu=>h u (List.mem_cons_of_mem _ hu)⟩
theorem qq {X : Cx} {pl fa : Addr} (hl : SqL X.K H pl xs) (cO : Reps H (es.map aC) xs) (nd : (es.map gT).Nodup) (hz : es.length < 100000) (hk : ∀ e v, Rep H (aC e) v -> vY X X.A.in1.in1 (.ref fa) H (LF H) v)
    (q:∀ xs' gC l H1,gC.Perm es->dR gC->H l = none->Same H H1->H1 l = some (.lst xs')->Reps H1 (gC.map aC) xs'->Q (.ref l) H1):nR X [.ref pl] (.ref fa) H Q:=by
 obtain ⟨L,l1,l2,l3⟩:=bR cO;have ekf:∀ {M:List (Ent × V)},(∀ t ∈ M,Rep H (aC t.1) t.2)->(M.map (·.2)).map (LF H) = (M.map (·.1)).map gT:=fun {M} h=>by
  rw [List.map_map,List.map_map];exact List.map_congr_left fun t ht=>kf_at (h t ht)
 refine ⟨pl,xs,LF H,fa,rfl,rfl,hl,?_,?_,fun y hy=>?_,fun xs' l H1 pm ri hn s1 h1=>?_⟩
 ·rw [<- l2,List.length_map];rw [<- l1,List.length_map] at hz;exact hz
 ·rw [<- l2,ekf l3,l1];exact nd
 ·rw [<- l2] at hy;obtain ⟨t,ht,rfl⟩:=List.mem_map.mp hy;exact hk t.1 t.2 (l3 t ht)
 ·obtain ⟨L',p1,p2⟩:=perm_lift pm L l2.symm;have Jh:∀ t ∈ L',Rep H (aC t.1) t.2:=fun t ht=>l3 t (p1.mem_iff.mp ht)
  refine q xs' (L'.map (·.1)) l H1 (by rw [<- l1];exact p1.map _) ?_ hn s1 h1 (by rw [p2];exact jY fun t ht=>(Jh t ht).same s1)
  unfold dR;unfold j8 at ri;rw [p2,List.pairwise_map] at ri;rw [List.pairwise_map];exact ri.imp_of_mem fun {a b} ha hb h=>by
   rw [kf_at (Jh a ha),kf_at (Jh b hb)] at h;exact h
theorem qx (hp:es.Perm fs) (h1:dR es) (h2:dR fs):es = fs:=by
 refine List.Perm.eq_of_pairwise (le:=fun a b=>eT (gT a) (gT b) = true) (fun a b _ _ h h'=>?_) h1 h2 hp
 rw [uW h] at h'
 cases h'
end
section
abbrev Aj (H H':Hp):Prop:=∀ a xs,H a = some (.tup xs)->H' a = some (.tup xs)
theorem AD {l:Addr} {o:HO} (h:H l = some (.lst xs)):Aj H (upd H l o):=fun a ys e=>by
 rw [aD (fun z=>by rw [z,h] at e;cases e)];exact e
theorem nN (s:SameN H H'):Aj H H':=fun a xs e=>s _ _ e (fun _ z=>by cases z)
theorem Rep.tups (s:Aj H H') (h:Rep H (aC e) v):Rep H' (aC e) v:=by
 obtain ⟨a,x,rfl,ha,hx⟩:=cG h;refine sI (s _ _ ha) ?_
 cases h:e.2.2 with
 | none=>rw [h] at hx;exact hx
 | some z=>rw [h] at hx;exact hx
theorem Reps.tups {H H':Hp} (s:Aj H H'):∀ {es:List Ent} {xs:List V},Reps H (es.map aC) xs->Reps H' (es.map aC) xs
 | [],xs,h=>by simp only [List.map_nil,Reps] at h ⊢;exact h
 | e :: es,xs,h=>by
  simp only [List.map_cons,Reps] at h ⊢;obtain ⟨v,r,rfl,h1,h2⟩:=h;exact ⟨v,r,rfl,Rep.tups s h1,Reps.tups s h2⟩
theorem Reps.sameN (s:SameN H H') (h:Reps H (es.map aC) xs):Reps H' (es.map aC) xs:=Reps.tups (nN s) h
def Jg:Pos:=match ao aT with
 | [.Return (some (.Call _ _ [⟨_,.Lambda _ _ _ p,_⟩] _)) _]=>p
 | _=>⟨0,0,0,0⟩
abbrev As (H:Hp):Prop:=TabOk kU Jg (Str.ofString "_law_in_order" ++ Str.ofString ".<locals>." ++ Str.ofString "<lambda>") H
def Gb (K:W.Frag):Sp:=fun vs H Q _=>∃ (p:Addr) (xs:List V) (es:List Ent),vs = [.ref p]/\H p = some (.lst xs)/\Reps H (es.map aC) xs/\(es.map gT).Nodup/\es.length < 1000/\As H/\∀ xs' gC l H1,gC.Perm es->dR gC->SameB kU H H1->As H1->H1 l = some (.lst xs')->Reps H1 (gC.map aC) xs'->Q (.ref l) H1
theorem lj:aq ["_law_entries"] ["_law_entries"] (ae aT):=⟨rfl,rfl,rfl,by decide +kernel,rfl,by decide +kernel,by decide +kernel⟩
theorem gY (T:Txt K mg) (j6:∀ p ∈ tabs,base.BuiltinsAt mg p) (N:Fn K mg "_law_in_order" aT ["_law_entries"] f fd) {cd:Addr} (JC:fd.code = .ref cd) (pM:W.codeHdIn K cd kU = true) (kIn:K.In base):FnOk P w K mg base cy (5) f fd ["_law_entries"] (Gb K):=by
 have hB:=j6 kU (by simp);refine N.fu.okC lj (fun vs H Q E h=>?_) (fun bq A outer s H vs Q E UK hr h=>?_)
 ·obtain ⟨p,xs,es,rfl,_⟩:=h
  rfl
 ·obtain ⟨p,xs,es,rfl,hp,cO,nd,hz,ht,q⟩:=h;obtain rfl:bq = Value.ref cd:=UK.symm.trans JC;have hC:=W.codeHd_of_K kIn pM;have j5:(Value.ref cd) = Value.ref cd:=rfl;refine ⟨_,(ah (aj (yN T.b_sorted (ai (bv 0) af rfl) (JW j5 hC hB)))),?_⟩;kas_types;lcg_off;refine ⟨ht,fun f c' H1 hf s1 pW hf1 N6=>?_⟩
  obtain ⟨qs,hT⟩:=ht.tbl;have Kd:=s1.toN hT;have NZ:=Kd _ _ hp (fun _ z=>by cases z)
  have Fs:=Reps.sameN Kd cO;refine qq (SqL.of NZ) Fs nd (by omega) (fun e v he=>Cz (k:=1) (N:=["_law_entry"]) (p:="_law_entry") ⟨rfl,rfl,rfl,by decide +kernel,rfl,by decide +kernel,by decide +kernel⟩ (hr.mono (by decide:4 <= 4)).in1.in1 hf1 N6 (fun _ _ _=>rfl) fun s Hi si Ap=>?_) (fun xs' gC l H2 a b c d f g=>?_)
  ·obtain ⟨a,x,rfl,ha,hx⟩:=cG he;refine ⟨_,(jb (ai (aG ak (bv 0) b_int (fun _ _=>rfl)) (ai (az iQ b_int (aG ak (bv 0) b_int (fun _ _=>rfl))) af rfl) rfl)),?_⟩
   kas_types;lcg_off;rw [kf_at he,gT,<- Int.zero_sub];exact ⟨_,rfl,by assumption,by assumption⟩
  ·exact q xs' gC l H2 a b (s1.trans (.of d)) (pW.same d) f g
theorem yf (es:List Ent) (hp:H p = some (.lst xs)) (cO:Reps H (es.map aC) xs) (nd:(es.map gT).Nodup) (hz:es.length < 1000) (ht:As H) (q:∀ xs' gC l H1,gC.Perm es->dR gC->SameB kU H H1->As H1->H1 l = some (.lst xs')->Reps H1 (gC.map aC) xs'->Q (.ref l) H1):Gb K [.ref p] H Q E:=⟨p,xs,es,rfl,hp,cO,nd,hz,ht,q⟩
end
section
def Cn (f:Int) (n:Int) (c:Nat):Int:=(n * f + (c:Int)) % 1000003
def numM (f:Int) (cs:List Nat):Int:=cs.foldl (Cn f) 7
def JS (sz:Int) (z:Str) (b f:Int):Int:=Builtin.bitOr b (1 * 2 ^ (numM f z.cps.toList % sz).toNat)
def mO (sz:Int) (b:Int) (z:Str):Int:=([31,37,41]:List Int).foldl (JS sz z) b
end
section
def inner:Stmt:=match ao fB with
 | d :: _=>d
 | _=>.Pass ⟨0,0,0,0⟩
abbrev LM:Pos:=match inner with
 | .FunctionDef _ _ _ _ _ _ _ _ _ p=>p
 | _=>⟨0,0,0,0⟩
abbrev yq:Str:=Str.ofString "probe" ++ Str.ofString ".<locals>." ++ Str.ofString "place_of"
abbrev cf (H:Hp):Prop:=TabOk bG LM yq H
abbrev D2:Sp:=Gj bG LM "place_of" yq (ar inner) (ao inner) (ae inner) "factor"
theorem Bf:aq ["factor","place_of"] ["factor"] (ae fB):=⟨rfl,rfl,rfl,by decide +kernel,rfl,by decide +kernel,by decide +kernel⟩
theorem gu:pJ ["key","size","number","sign","factor"] ["key","size"] "factor" 4 (ae inner):=⟨rfl,rfl,rfl,by decide +kernel,rfl,by decide +kernel,by decide +kernel,rfl,by decide +kernel,rfl,by decide⟩
theorem Ae (env:Env) (cc:Addr) (h:env.cells.lookup (Str.ofString "factor") = some cc):closureFor (ae inner) env = pure [(Str.ofString "factor",cc)]:=by
 have e:(ae inner).names = ([(Str.ofString "key",NameKind.local),(Str.ofString "size",NameKind.local),(Str.ofString "number",NameKind.local),(Str.ofString "sign",NameKind.local),(Str.ofString "factor",NameKind.free),(Str.ofString "FIRST_NUMBER_sieves",NameKind.globalImplicit),(Str.ofString "ord",NameKind.globalImplicit),(Str.ofString "MODULUS_sieves",NameKind.globalImplicit)]:List (Str × NameKind)):=by rfl
 unfold closureFor;rw [e];simp [cellOf,h]
theorem Cg (T:Txt K mg) (j6:∀ p ∈ tabs,base.BuiltinsAt mg p) (N:Fn K mg "probe" fB ["factor"] f fd) {cd:Addr} (JC:fd.code = .ref cd) (pM:W.codeHdIn K cd bG = true) (kIn:K.In base):FnOk P w K mg base cy 1 f fd ["factor"] D2:=by
 exact JN (k:=0) N.fu Bf rfl rfl (by decide) (np:=_) (rpos:=_) rfl rfl rfl (fun _=>rfl) Ae (fun _ _=>rfl) (by decide) JC (W.codeHd_of_K kIn pM) (j6 bG (by simp))
end
section
def aX (z:Str) (sz:Int):List Int:=([31,37,41]:List Int).map fun f=>numM f z.cps.toList % sz
theorem zj {fa : Int} {ff c' cc : Addr} (T : Txt K mg) (hz : 0 < sz) (Ko : -(2 ^ 64) < fa /\ fa < 2 ^ 64) (h1 : H ff = some (.ext (pK "place_of" yq (ar inner) (ao inner) (ae inner) [("factor", cc)] ff c'))) (h2 : H c' = some (.ext (gp yq c'))) (h3 : H cc = some (.ext (xR (.int fa) cc)))
    (q:Q (.int (numM fa z.cps.toList % sz)) H):yP P w K mg base 1 ff [.str z,.int sz] H Q:=by
 refine Bh (k:=0) (R:=fun v=>v = .int (numM fa z.cps.toList % sz)) gu h1 h2 h3 (fun us doc pm i0 hl=>match us,hl with | [_,_],_=>rfl) rfl (fun A outer s hr=>?_) (fun v hv=>by rw [hv];exact q)
 generalize del H cc = H0;refine ⟨_,(ag (av (i:=2) gu.nd rfl (by first | exact Or.inl rfl | exact Or.inr rfl) (d7 T.g_FIRST_NUMBER_sieves))
  (ag (fi PassesOwn.never rfl (oW (bv 0)) (dD (i:=3) gu.nd rfl (by first | exact Or.inl rfl | exact Or.inr rfl))
   (ah (av (i:=2) gu.nd rfl (by first | exact Or.inl rfl | exact Or.inr rfl) (az aM (az aW (az ft (bv 2) (bv 4)) (eZ vI T.b_ord (by kernel_rfl) (ai (bv 3) af rfl))) (d7 T.g_MODULUS_sieves)))))
  (ah (aj (az aM (bv 2) (bv 1)))))),?_⟩
 kas_types;show AI _ _ _ [some (.str z),some (.int sz),none,none,some (.int fa)] H0;lcg_off;refine Mr (z:=z) (fun k σ F=>∃ (o3:Option V),σ = [some (.str z),some (.int sz),some (.int ((z.cps.toList.take k).foldl (Cn fa) 7)),o3,some (.int fa)]/\F = H0)
  ⟨none,rfl,rfl⟩ (fun k ch σ F hk pM h=>?_) (fun σ F h=>?_)
 ·obtain ⟨o3,rfl,rfl⟩:=h;obtain ⟨we,Uy⟩:=List.getElem?_eq_some_iff.mp pM;have CP:(z.cps.toList.take (k + 1)).foldl (Cn fa) 7 = Cn fa ((z.cps.toList.take k).foldl (Cn fa) 7) ch:=by
   rw [List.take_succ_eq_append_getElem we,Uy,List.foldl_append]
   rfl
  lcg_off;refine ⟨_,rfl,rfl,?_⟩;lcg_off;refine ⟨some (.str ⟨#[ch]⟩),?_,rfl⟩;rw [CP]
  rfl
 ·obtain ⟨o3,rfl,rfl⟩:=h;rw [List.take_length];lcg_off;exact ⟨rfl,rfl⟩
def t5 (K:W.Frag):Sp:=fun vs H Q _=>∃ (z:Str) (sz:Int),vs = [.str z,.int sz]/\0 < sz/\cf H/\∀ l H1,H l = none->SameB bG H H1->cf H1->H1 l = some (.lst ((aX z sz).map V.int))->Q (.ref l) H1
theorem rL:aq ["key","size"] ["key","size"] (ae cD):=⟨rfl,rfl,rfl,by decide +kernel,rfl,by decide +kernel,by decide +kernel⟩
theorem kx (T:Txt K mg) (j6:∀ p ∈ tabs,base.BuiltinsAt mg p) (kIn:K.In base) (N:Fn K mg "places_of" cD ["key","size"] f fd):FnOk P w K mg base cy (2) f fd ["key","size"] (t5 K):=by
 obtain ⟨_,_,_,yR,zS,zU⟩:=T.c_probe;have FT:=Cg (P:=P) (w:=w) (base:=base) T j6 yR zS zU kIn;obtain ⟨Ai,xE,oC⟩:=T.g_FACTORS;refine N.fu.okB rL (fun vs H Q E h=>?_) (fun bq A outer s H vs Q E hr h=>?_)
 ·obtain ⟨z,sz,rfl,_⟩:=h
  rfl
 ·obtain ⟨z,sz,rfl,hz,ht,q⟩:=h;refine ⟨_,(ah (aj (j7 (x:="factor") (ix:=[0,1]) (fv:=["key","size"]) (osc:=ae cD) rfl ⟨rfl,by decide +kernel,by decide +kernel,by rfl,by decide +kernel,by decide +kernel,by decide +kernel⟩ (by rfl) (lP (d7 xE)) (fun _ _ _ _=>fj) (fun _ _ _ _=>(FK rfl rfl rfl rfl rfl (hr.mono (by first | decide | omega):Room 1 _) (bF yR FT (hr.mono (by first | decide | omega)) (ai (bv 0) af rfl)) (ai (bv 1) (ai (bv 2) af rfl) rfl)))))),?_⟩
  kas_types;lcg_off;refine ⟨Ai,rfl,⟨_,oC H⟩,?_⟩;refine Fb (xs:=[.int 31,.int 37,.int 41]) (fun i us F=>SameB bG H F/\cf F/\us = ((aX z sz).take i).map V.int/\i <= 3) (by simp [sizeLine_eq]) ⟨SameB.refl,ht,rfl,by decide⟩ (fun i us F h=>⟨oC F,by rw [h.2.2.1,List.length_map,List.length_take];have:=h.2.2.2;simp [aX];omega⟩) (fun i v us F hv h=>?_) (fun us pu F F1 h wc sF hF=>?_)
  ·obtain ⟨f1,f2,rfl,_⟩:=h;obtain ⟨fa,Ko,rfl⟩:∃ fa:Int,([31,37,41]:List Int)[i]? = some fa/\v = .int fa:=by
    have e:([.int 31,.int 37,.int 41]:List V) = ([31,37,41]:List Int).map V.int:=rfl;rw [e,List.getElem?_map] at hv;obtain ⟨fa,h1,h2⟩:=Option.map_eq_some_iff.mp hv;exact ⟨fa,h1,h2.symm⟩
   have hf3:fa = 31 \/ fa = 37 \/ fa = 41:=by simpa using List.mem_of_getElem? Ko
   have kQ:=(List.getElem?_eq_some_iff.mp Ko).1;have qL:(aX z sz)[i]? = some (numM fa z.cps.toList % sz):=by
    unfold aX;rw [List.getElem?_map,Ko]
    rfl
   obtain ⟨Jw,Jv⟩:=List.getElem?_eq_some_iff.mp qL;lcg_off;refine ⟨.int fa,rfl,f2,fun ff c' cc H1 hff qO s1 t1 h1 h2 h3=>?_⟩
   refine ⟨ff,rfl,⟨_,_,_,_,_,_,_,h1⟩,?_⟩;lcg_off;refine ⟨⟨_,_,_,_,_,_,_,h1⟩,zj T hz (by omega) h1 h2 h3 ?_⟩;refine ⟨f1.trans s1,t1,?_,kQ⟩;rw [List.take_succ_eq_append_getElem Jw,Jv,List.map_append]
   rfl
  obtain ⟨f1,f2,rfl,_⟩:=h;obtain ⟨ps,hT⟩:=f2.tbl;refine q pu F1 ?_ (f1.trans (.of sF)) (f2.same sF) (by rw [hF];rfl)
  cases e:H pu with
  | none=>rfl
  | some o =>
   by_cases n:pu = bG
   ·rw [n,hT] at wc
    cases wc
   ·rw [f1 _ _ e n] at wc
    cases wc
theorem nT (hz:0 < sz) (ht:cf H) (q:∀ l H1,H l = none->SameB bG H H1->cf H1->H1 l = some (.lst ((aX z sz).map V.int))->Q (.ref l) H1):t5 K [.str z,.int sz] H Q E:=⟨z,sz,rfl,hz,ht,q⟩
theorem Ag (a b:Nat):Builtin.bitOr (a:Int) (b:Int) = ((a ||| b:Nat):Int):=by
 have e1:Builtin.bitNot (Builtin.bitNot (a:Int)) = a:=by unfold Builtin.bitNot;omega
 have e2:Builtin.bitNot (Builtin.bitNot (b:Int)) = b:=by unfold Builtin.bitNot;omega
 have n1:decide (0 <= Builtin.bitNot (a:Int)) = false:=by unfold Builtin.bitNot;simp;omega
 have n2:decide (0 <= Builtin.bitNot (b:Int)) = false:=by unfold Builtin.bitNot;simp;omega
 unfold Builtin.bitOr;rw [Builtin.bitAnd,n1,n2];dsimp only;rw [e1,e2];unfold Builtin.bitNot;simp only [Int.toNat_natCast];omega
theorem Dn (n k:Nat):decide (Builtin.bitAnd ((n:Int) / 2 ^ k) 1 = 1) = n.testBit k:=by
 have e:((n:Int) / 2 ^ k) = ((n / 2 ^ k:Nat):Int):=by rw [Int.natCast_ediv];simp
 rw [e,Builtin.bitAnd];have n1:decide (0 <= ((n / 2 ^ k:Nat):Int)) = true:=decide_eq_true (Int.natCast_nonneg _);rw [n1,show decide (0 <= (1:Int)) = true by decide];dsimp only;rw [Int.toNat_natCast,show (1:Int).toNat = 1 from rfl,Nat.and_one_is_mod,Nat.testBit_eq_decide_div_mod_eq]
 congr 1
 simp only [eq_iff_iff];omega
def sJ (bt:Int) (pl:List Int):Bool:=pl.all fun p=>decide (Builtin.bitAnd (bt / 2 ^ p.toNat) 1 = 1)
end
section
def wa (ks:List Str):Int:=8 * max 1 ((SW.onces ks).length:Int)
def ql (K:W.Frag):Sp:=fun vs H Q _=>∃ (p:Addr) (ks:List Str),vs = [.ref p]/\H p = some (.lst (ks.map V.str))/\ks.length < 1000/\cf H/\∀ t H1,SameB bG H H1->cf H1->H1 t = some (.tup [.int (wa ks),.int (ks.foldl (mO (wa ks)) 0)])->Q (.ref t) H1
theorem dP:aq ["keys","size","bits","key","place"] ["keys"] (ae dF):=⟨rfl,rfl,rfl,by decide +kernel,rfl,by decide +kernel,by decide +kernel⟩
theorem uE (T:Txt K mg) (j6:∀ p ∈ tabs,base.BuiltinsAt mg p) (kIn:K.In base) (N:Fn K mg "sieve_of" dF ["keys"] f fd):FnOk P w K mg base cy (3) f fd ["keys"] (ql K):=by
 obtain ⟨_,_,eX⟩:=T.f_places_of;have jf:=kx (P:=P) (w:=w) (base:=base) T j6 kIn eX;refine N.fu.okB dP (fun vs H Q E h=>?_) (fun bq A outer s H vs Q E hr h=>?_)
 ·obtain ⟨p,ks,rfl,_⟩:=h
  rfl
 ·obtain ⟨p,ks,rfl,hp,hl,tok,q⟩:=h;have ol:=SW.onces_le ks;have Nv:(Builtin.Int.intBits 1:Int) = 1:=by decide +kernel
  refine ⟨_,(ag (av (i:=1) dP.nd rfl (by first | exact Or.inl rfl | exact Or.inr rfl) (az ft b_int (eZ (Nt rfl) T.b_max (by kernel_rfl) (ai b_int (ai (eZ JQ T.b_len (by kernel_rfl) (ai (JV JO T.b_set (by kernel_rfl) (ai (bv 0) af rfl)) af rfl)) af rfl) rfl))))
  (ag (av (i:=2) dP.nd rfl (by first | exact Or.inl rfl | exact Or.inr rfl) b_int)
  (ag (fi PassesOwn.never rfl (eM (bv 0)) (dD (i:=3) dP.nd rfl (by first | exact Or.inl rfl | exact Or.inr rfl))
   (ah (fi PassesOwn.never rfl (eM (bF eX jf (hr.mono (by first | decide | omega)) (ai (bv 3) (ai (bv 1) af rfl) rfl))) (dD (i:=4) dP.nd rfl (by first | exact Or.inl rfl | exact Or.inr rfl))
   (ah (av (i:=2) dP.nd rfl (by first | exact Or.inl rfl | exact Or.inr rfl) (az Lm (bv 2) (az Ci b_int (bv 4))))))))
  (ah (aj (jb (ai (bv 1) (ai (bv 2) af rfl) rfl))))))),?_⟩
  kas_types;lcg_off;refine Ee ks (SqL.of hp) (by omega) (fun pl H1 qL s1 h1=>?_);lcg_off;refine Eg _ h1 ?_;lcg_off;obtain ⟨ps,hT⟩:=tok.tbl;have hz:(0:Int) < 8 * max 1 ((SW.onces ks).length:Int):=by omega
  have Kh:8 * max 1 ((SW.onces ks).length:Int) < 10000:=by omega
  rw [show 8 * max 1 ((SW.onces ks).length:Int) = wa ks from rfl] at *;generalize wa ks = sz at *;have NZ:=s1 _ _ hp;refine forL (xs:=ks.map V.str) (fun i σ H'=>∃ (o3 o4:Option V),σ = [some (.ref p),some (.int sz),some (.int ((ks.take i).foldl (mO sz) 0)),o3,o4]/\SameB bG H H'/\cf H')
   ⟨none,none,rfl,.of s1,tok.same s1⟩ (fun i σ H' h=>by obtain ⟨_,_,_,a,_⟩:=h;exact SqL.of (a.toN hT _ _ hp (fun _ z=>by cases z))) (fun i x σ H' hi hx h=>?_) (fun σ H' h=>?_)
  ·obtain ⟨o3,o4,rfl,g1,g2⟩:=h;rw [List.getElem?_map] at hx;obtain ⟨z,hzi,rfl⟩:=Option.map_eq_some_iff.mp hx;obtain ⟨Y8,hze⟩:=List.getElem?_eq_some_iff.mp hzi;have pW:(ks.take (i + 1)).foldl (mO sz) 0 = mO sz ((ks.take i).foldl (mO sz) 0) z:=by
    rw [List.take_succ_eq_append_getElem Y8,hze,List.foldl_append]
    rfl
   generalize (ks.take i).foldl (mO sz) 0 = b0 at *;lcg_off;refine nT hz g2 (fun l H2 Fq s2 t2 h2=>?_);have yx:∀ q ∈ aX z sz,0 <= q/\q < sz:=fun q hq=>by
    obtain ⟨f,_,rfl⟩:=List.mem_map.mp hq;exact ⟨Int.emod_nonneg _ (by omega),Int.emod_lt_of_pos _ (by omega)⟩
   lcg_off;refine forL (xs:=(aX z sz).map V.int) (fun j σ F=>∃ (o4:Option V),σ = [some (.ref p),some (.int sz),some (.int (((aX z sz).take j).foldl (fun b q=>Builtin.bitOr b (1 * 2 ^ q.toNat)) b0)),some (.str z),o4]/\F = H2)
    ⟨_,rfl,rfl⟩ (fun j σ F h=>by obtain ⟨_,_,rfl⟩:=h;exact SqL.of h2) (fun j x σ F hj hx h=>?_) (fun σ F h=>?_)
   ·obtain ⟨o4,rfl,rfl⟩:=h;rw [List.getElem?_map] at hx;obtain ⟨q,hq,rfl⟩:=Option.map_eq_some_iff.mp hx;obtain ⟨hql,hqe⟩:=List.getElem?_eq_some_iff.mp hq;obtain ⟨q0,q1⟩:=yx q (List.mem_of_getElem? hq);have hj1:((aX z sz).take (j + 1)).foldl (fun b q=>Builtin.bitOr b (1 * 2 ^ q.toNat)) b0 = Builtin.bitOr (((aX z sz).take j).foldl (fun b q=>Builtin.bitOr b (1 * 2 ^ q.toNat)) b0) (1 * 2 ^ q.toNat):=by
     rw [List.take_succ_eq_append_getElem hql,hqe,List.foldl_append]
     rfl
    lcg_off;refine rN ⟨q0,by rw [Nv];omega⟩ ?_;lcg_off;refine ⟨some (.int q),?_,rfl⟩;rw [hj1]
   ·obtain ⟨o4,rfl,rfl⟩:=h;refine ⟨some (.str z),o4,?_,g1.trans s2,t2⟩;rw [pW,List.length_map,List.take_length]
    rfl
  ·obtain ⟨o3,o4,rfl,g1,g2⟩:=h;rw [List.length_map,List.take_length];lcg_off;rename_i t Ht st ht;exact q t Ht (g1.trans (.of st)) (g2.same st) ht
theorem ug (ks:List Str) (hp:H p = some (.lst (ks.map V.str))) (hl:ks.length < 1000) (tok:cf H) (q:∀ t H1,SameB bG H H1->cf H1->H1 t = some (.tup [.int (wa ks),.int (ks.foldl (mO (wa ks)) 0)])->Q (.ref t) H1):ql K [.ref p] H Q E:=⟨p,ks,rfl,hp,hl,tok,q⟩
theorem sW {n:Nat} {f:Int}:JS sz z (n:Int) f = ((n ||| 2 ^ (numM f z.cps.toList % sz).toNat:Nat):Int):=by
 unfold JS;rw [Int.one_mul,show ((2:Int) ^ (numM f z.cps.toList % sz).toNat) = ((2 ^ (numM f z.cps.toList % sz).toNat:Nat):Int) by simp,Ag]
theorem zK {n:Nat}:∃ m:Nat,mO sz (n:Int) z = m/\∀ k,m.testBit k = true ↔ (n.testBit k = true \/ ∃ p ∈ aX z sz,p.toNat = k):=by
 refine ⟨n ||| 2 ^ (numM 31 z.cps.toList % sz).toNat ||| 2 ^ (numM 37 z.cps.toList % sz).toNat ||| 2 ^ (numM 41 z.cps.toList % sz).toNat,?_,fun k=>?_⟩
 ·unfold mO;rw [List.foldl_cons,List.foldl_cons,List.foldl_cons,List.foldl_nil,sW,sW,sW]
 ·simp only [Nat.testBit_or,Nat.testBit_two_pow,Bool.or_eq_true,decide_eq_true_eq,aX,List.map_cons,List.map_nil,List.mem_cons,List.not_mem_nil,or_false]
  constructor
  ·rintro (((h | h) | h) | h)
   ·exact .inl h
   ·exact .inr ⟨_,.inl rfl,h⟩
   ·exact .inr ⟨_,.inr (.inl rfl),h⟩
   ·exact .inr ⟨_,.inr (.inr rfl),h⟩
  ·rintro (h | ⟨p,rfl | rfl | rfl,h⟩)
   ·exact .inl (.inl (.inl h))
   ·exact .inl (.inl (.inr h))
   ·exact .inl (.inr h)
   ·exact .inr h
theorem kZ {sz:Int}:∀ (zs:List Str) (n:Nat),∃ m:Nat,zs.foldl (mO sz) (n:Int) = m/\∀ k,m.testBit k = true ↔ (n.testBit k = true \/ ∃ z ∈ zs,∃ p ∈ aX z sz,p.toNat = k)
 | [],n=>⟨n,rfl,fun k=>by simp⟩
 | z :: zs,n=>by
  obtain ⟨m1,a1,a2⟩:=zK (sz:=sz) (z:=z) (n:=n);obtain ⟨m2,b1,b2⟩:=kZ zs m1;refine ⟨m2,by rw [List.foldl_cons,a1,b1],fun k=>?_⟩
  rw [b2,a2];simp only [List.mem_cons,exists_eq_or_imp,or_assoc]
end
section
def D3 (K:W.Frag):Sp:=fun vs H Q _=>∃ v d lo hi,vs = [v,.int lo,.int hi]/\Rep H d v/\tw d = true/\∀ H',Same H H'->Q (.bl (iM d lo hi)) H'
theorem lh:aq ["thing","fewest","most"] ["thing","fewest","most"] (ae bf):=⟨rfl,rfl,rfl,by decide +kernel,rfl,by decide +kernel,by decide +kernel⟩
theorem gW (T:Txt K mg) (N:Fn K mg "is_plain_text" bf ["thing","fewest","most"] f fd):FnOk P w K mg base cy (1) f fd ["thing","fewest","most"] (D3 K):=by
 refine N.fu.okB lh (fun vs H Q E h=>?_) (fun bq A outer s H vs Q E hr h=>?_)
 ·obtain ⟨v,d,lo,hi,rfl,_⟩:=h
  rfl
 ·obtain ⟨v,d,lo,hi,rfl,hd,hz,k⟩:=h;refine ⟨_,(ag (aL (bU (bh (eZ dg T.b_isinstance (by kernel_rfl) (ai (bv 0) (ai (oX (T:="str") T.b_str (by kernel_rfl)) af rfl) rfl)) (fun _=>rfl)))
   (ah (aj iJ))
   aw)
  (ag (aL (eF (dt (ax sy (eZ bT T.b_len (by kernel_rfl) (ai (bv 0) af rfl)) (bv 1) (au _)) (dn (ax nX (eZ bT T.b_len (by kernel_rfl) (ai (bv 0) af rfl)) (bv 2) (au _)))))
   (ah (aj iJ))
   aw)
  (ah (aj (eZ (qZ rfl) T.b_all (by kernel_rfl) (ai (j7 (x:="sign") (ix:=[]) (fv:=[]) (osc:=ae bf) rfl ⟨rfl,by decide +kernel,by decide +kernel,by rfl,by decide +kernel,by decide +kernel,by decide +kernel⟩ (by rfl) (oW (bv 0)) (fun _ _ _ _=>fj) (fun _ _ _ _=>(yO oh oh (d7 T.g_LOWEST_SIGN) (bv 0) (d7 T.g_HIGHEST_SIGN)))) af rfl)))))),?_⟩
  kas_types
  cases d with
  | str z =>
   simp only [Rep] at hd;subst hd;have LP:z.length <= sizeLine:=of_decide_eq_true hz;simp only [iM] at k;lcg_off;refine aI (fun h1=>?_) (fun h1=>?_)
   ·rw [show iu z lo hi = false by unfold iu;rw [decide_eq_false (by omega)];rfl] at k;lcg_off;exact k H (Same.refl H)
   ·lcg_off;refine aI (fun h2=>?_) (fun h2=>?_)
    ·rw [show iu z lo hi = false by unfold iu;rw [decide_eq_false (by omega)];rfl] at k;lcg_off;exact k H (Same.refl H)
    ·lcg_off;refine SS (fun c=>.bl (eC c)) LP (fun c _ R h=>?_) (fun p H1 hp s hl=>?_)
     ·lcg_off;refine fW (fun h3=>?_) (fun h3=>?_)
      ·have:eC c = decide (c <= 126):=by
        have Mk:decide (([c]:List Nat) < [32]) = false:=h3;rw [w6] at Mk;have h4:=of_decide_eq_false Mk;unfold eC;apply decide_eq_decide.mpr;omega
       lcg_off;rw [this] at h;have e2:(!decide (("~":Str).cps.toList < (⟨#[c]⟩:Str).cps.toList)) = decide (c <= 126):=by
        show (!decide (([126]:List Nat) < [c])) = _;rw [w6]
        by_cases hc:126 < c
        ·rw [decide_eq_true hc,decide_eq_false (by omega)];rfl
        ·rw [decide_eq_false hc,decide_eq_true (by omega)];rfl
       show R (V.bl (!decide (("~":Str).cps.toList < (⟨#[c]⟩:Str).cps.toList))) H;rw [e2];exact h
      ·have:eC c = false:=by
        have Mk:decide (([c]:List Nat) < [32]) = true:=h3;rw [w6] at Mk;have h4:=of_decide_eq_true Mk;unfold eC;apply decide_eq_false;omega
       rw [this] at h;exact h
     ·lcg_off;refine lz (z.cps.toList.map eC) (SqL.of (by rw [hl,List.map_map];rfl)) ?_;rw [show (z.cps.toList.map eC).all id = iu z lo hi by
       unfold iu;rw [decide_eq_true (by omega),Bool.true_and,List.all_map]
       rfl]
      exact k _ s
  | non=>simp only [Rep] at hd;subst hd;lcg_off;exact k H (Same.refl H)
  | bl b=>simp only [Rep] at hd;subst hd;lcg_off;exact k H (Same.refl H)
  | int i=>simp only [Rep] at hd;subst hd;lcg_off;exact k H (Same.refl H)
  | lst ds=>simp only [Rep] at hd;obtain ⟨a,vs,rfl,h1,_⟩:=hd;lcg_off;exact k H (Same.refl H)
  | tup ds=>simp only [Rep] at hd;obtain ⟨a,vs,rfl,h1,_⟩:=hd;lcg_off;exact k H (Same.refl H)
  | dct=>simp only [Rep] at hd;obtain ⟨a,vs,rfl,h1⟩:=hd;lcg_off;exact k H (Same.refl H)
def nE (g:D->Bool):Sp:=fun vs H Q _=>∃ v d,vs = [v]/\Rep H d v/\tw d = true/\∀ H',Same H H'->Q (.bl (g d)) H'
theorem y':aq ["thing"] ["thing"] (ae fO):=⟨rfl,rfl,rfl,by decide +kernel,rfl,by decide +kernel,by decide +kernel⟩
theorem zx (T:Txt K mg) (N:Fn K mg "is_key" fO ["thing"] f fd):FnOk P w K mg base cy (2) f fd ["thing"] (nE fun d=>iM d 1 20):=by
 obtain ⟨_,_,cK⟩:=T.f_is_plain_text;have fm:=gW (P:=P) (w:=w) (base:=base) T cK;refine N.fu.okB y' (fun vs H Q E h=>?_) (fun bq A outer s H vs Q E hr h=>?_)
 ·obtain ⟨v,d,rfl,_⟩:=h
  rfl
 ·obtain ⟨v,d,rfl,hd,hz,k⟩:=h;refine ⟨_,(ah (aj (bF cK fm (hr.mono (by first | decide | omega)) (ai (bv 0) (ai b_int (ai (d7 T.g_LONGEST_KEY) af rfl) rfl) rfl)))),?_⟩;kas_types;lcg_off;exact ⟨v,d,1,20,rfl,hd,hz,k⟩
theorem ui:aq ["thing"] ["thing"] (ae dH):=⟨rfl,rfl,rfl,by decide +kernel,rfl,by decide +kernel,by decide +kernel⟩
theorem uH (T:Txt K mg) (N:Fn K mg "is_value" dH ["thing"] f fd):FnOk P w K mg base cy (2) f fd ["thing"] (nE fun d=>iM d 0 40):=by
 obtain ⟨_,_,cK⟩:=T.f_is_plain_text;have fm:=gW (P:=P) (w:=w) (base:=base) T cK;refine N.fu.okB ui (fun vs H Q E h=>?_) (fun bq A outer s H vs Q E hr h=>?_)
 ·obtain ⟨v,d,rfl,_⟩:=h
  rfl
 ·obtain ⟨v,d,rfl,hd,hz,k⟩:=h;refine ⟨_,(ah (aj (bF cK fm (hr.mono (by first | decide | omega)) (ai (bv 0) (ai b_int (ai (d7 T.g_LONGEST_VALUE) af rfl) rfl) rfl)))),?_⟩;kas_types;lcg_off;exact ⟨v,d,0,40,rfl,hd,hz,k⟩
theorem dX {g:D->Bool} (d:D) (hd:Rep H d v) (hz:tw d = true) (k:∀ H',Same H H'->Q (.bl (g d)) H'):nE g [v] H Q E:=⟨v,d,rfl,hd,hz,k⟩
def ig:D->Bool
 | .int _=>true
 | _=>false
theorem jU:aq ["thing"] ["thing"] (ae aZ):=⟨rfl,rfl,rfl,by decide +kernel,rfl,by decide +kernel,by decide +kernel⟩
theorem fQ (T:Txt K mg) (N:Fn K mg "is_whole_number" aZ ["thing"] f fd):FnOk P w K mg base cy (1) f fd ["thing"] (nE ig):=by
 refine N.fu.okB jU (fun vs H Q E h=>?_) (fun bq A outer s H vs Q E hr h=>?_)
 ·obtain ⟨v,d,rfl,_⟩:=h
  rfl
 ·obtain ⟨v,d,rfl,hd,hz,k⟩:=h;have k:=k H (Same.refl H);refine ⟨_,(ah (aj (oZ (eZ dg T.b_isinstance (by kernel_rfl) (ai (bv 0) (ai (oX (T:="int") T.b_int (by kernel_rfl)) af rfl) rfl)) (mh (Nx (eZ dg T.b_isinstance (by kernel_rfl) (ai (bv 0) (ai (oX (T:="bool") T.b_bool (by kernel_rfl)) af rfl) rfl))))))),?_⟩;kas_types
  cases d with
  | int i=>simp only [Rep] at hd;subst hd;lcg_off;exact k
  | non=>simp only [Rep] at hd;subst hd;lcg_off;exact k
  | bl b=>simp only [Rep] at hd;subst hd;lcg_off;exact k
  | str z=>simp only [Rep] at hd;subst hd;lcg_off;exact k
  | lst ds=>simp only [Rep] at hd;obtain ⟨a,vs,rfl,h1,_⟩:=hd;lcg_off;exact k
  | tup ds=>simp only [Rep] at hd;obtain ⟨a,vs,rfl,h1,_⟩:=hd;lcg_off;exact k
  | dct=>simp only [Rep] at hd;obtain ⟨a,vs,rfl,h1⟩:=hd;lcg_off;exact k
theorem uj:aq ["thing"] ["thing"] (ae dI):=⟨rfl,rfl,rfl,by decide +kernel,rfl,by decide +kernel,by decide +kernel⟩
theorem uI (T:Txt K mg) (N:Fn K mg "is_stamp" dI ["thing"] f fd):FnOk P w K mg base cy (2) f fd ["thing"] (nE nC):=by
 obtain ⟨_,_,bC⟩:=T.f_is_whole_number;have cS:=fQ (P:=P) (w:=w) (base:=base) T bC;refine N.fu.okB uj (fun vs H Q E h=>?_) (fun bq A outer s H vs Q E hr h=>?_)
 ·obtain ⟨v,d,rfl,_⟩:=h
  rfl
 ·obtain ⟨v,d,rfl,hd,hz,k⟩:=h;refine ⟨_,(ah (aj (oZ (bF bC cS (hr.mono (by first | decide | omega)) (ai (bv 0) af rfl)) (mh (yO oh oh b_int (bv 0) (d7 T.g_GREATEST_STAMP)))))),?_⟩;kas_types;lcg_off;refine dX (g:=ig) d hd hz (fun H1 s1=>?_)
  have k:=k H1 s1
  cases d with
  | int i =>
   simp only [Rep] at hd;subst hd;simp only [ig];lcg_off;refine aI (fun h1=>?_) (fun h1=>?_)
   ·lcg_off;simp only [nC] at k;rw [show decide (i <= 999999999) = decide (1 <= i/\i <= 999999999) from decide_eq_decide.mpr ⟨fun h=>⟨h1,h⟩,fun h=>h.2⟩];exact k
   ·simp only [nC] at k;rw [decide_eq_false (show ¬ (1 <= i/\i <= 999999999) from fun h=>h1 h.1)] at k;exact k
  | non=>simp only [ig];lcg_off;exact k
  | bl b=>simp only [ig];lcg_off;exact k
  | str z=>simp only [ig];lcg_off;exact k
  | lst ds=>simp only [ig];lcg_off;exact k
  | tup ds=>simp only [ig];lcg_off;exact k
  | dct=>simp only [ig];lcg_off;exact k
theorem uk:aq ["thing"] ["thing"] (ae dJ):=⟨rfl,rfl,rfl,by decide +kernel,rfl,by decide +kernel,by decide +kernel⟩
theorem lY (T:Txt K mg) (N:Fn K mg "is_entry" dJ ["thing"] f fd):FnOk P w K mg base cy (3) f fd ["thing"] (nE d5):=by
 obtain ⟨_,_,pj⟩:=T.f_is_value;have xM:=uH (P:=P) (w:=w) (base:=base) T pj;obtain ⟨_,_,vV⟩:=T.f_is_key;have DB:=zx (P:=P) (w:=w) (base:=base) T vV;obtain ⟨_,_,pz⟩:=T.f_is_stamp;have xN:=uI (P:=P) (w:=w) (base:=base) T pz;refine N.fu.okB uk (fun vs H Q E h=>?_) (fun bq A outer s H vs Q E hr h=>?_)
 ·obtain ⟨v,d,rfl,_⟩:=h
  rfl
 ·obtain ⟨v,d,rfl,hd,hz,k⟩:=h;refine ⟨_,(ag (aL (eF (dt (bU (bh (eZ dg T.b_isinstance (by kernel_rfl) (ai (bv 0) (ai (oX (T:="tuple") T.b_tuple (by kernel_rfl)) af rfl) rfl)) (fun _=>rfl))) (dn (ax (hU (aH hr)) (eZ bT T.b_len (by kernel_rfl) (ai (bv 0) af rfl)) b_int (au _)))))
   (ah (aj iJ))
   aw)
  (ag (aL (eF (dt (bU (bh (bF vV DB (hr.mono (by first | decide | omega)) (ai (aG ak (bv 0) b_int (fun _ _=>rfl)) af rfl)) (fun _=>rfl))) (dn (bU (bh (bF pz xN (hr.mono (by first | decide | omega)) (ai (aG ak (bv 0) b_int (fun _ _=>rfl)) af rfl)) (fun _=>rfl))))))
   (ah (aj iJ))
   aw)
  (ah (aj (XJ (eW iw (aG ak (bv 0) b_int (fun _ _=>rfl)) bB (au _)) (mh (bF pj xM (hr.mono (by first | decide | omega)) (ai (aG ak (bv 0) b_int (fun _ _=>rfl)) af rfl)))))))),?_⟩
  kas_types
  cases d with
  | tup ds =>
   obtain ⟨a,vs,rfl,h1,h2⟩:=hd.tupE;have hl:=h2.length;lcg_off;refine fV (fun e=>?_) (fun e=>?_)
   ·lcg_off;have e1:d5 (.tup ds) = false:=by
     match ds,hl with
     | [],_=>rfl
     | [_],_=>rfl
     | [_,_],_=>rfl
     | [_,_,_],hl=>exact absurd (by rw [<- hl];rfl) e
     | _ :: _ :: _ :: _ :: _,_=>rfl
    rw [e1] at k;exact k H (Same.refl H)
   ·have Kl:ds.length = 3:=by omega
    match ds,Kl with
    | [x,y,z],_ =>
     obtain ⟨vx,_,rfl,hx,h3⟩:=h2.consE;obtain ⟨vy,_,rfl,hy,h4⟩:=h3.consE;obtain ⟨vz,_,rfl,hzz,h5⟩:=h4.consE;obtain rfl:=h5.nilE;simp only [tw,jR,Bool.and_eq_true] at hz;obtain ⟨z1,z2,z3,_⟩:=hz;simp only [d5] at k;lcg_off;refine dX x hx z1 (fun H1 s1=>?_)
     lcg_off;refine fW (fun e1=>?_) (fun e1=>?_)
     ·rw [e1,Bool.false_and,Bool.false_and] at k;lcg_off;exact k H1 s1
     ·rw [e1,Bool.true_and] at k;lcg_off;refine dX y (by keq_rows) z2 (fun H2 s2=>?_);lcg_off;refine fW (fun e2=>?_) (fun e2=>?_)
      ·rw [e2,Bool.false_and] at k;lcg_off;exact k H2 (by lcg_sub)
      ·rw [e2,Bool.true_and] at k;lcg_off;rw [hzz.nonI]
       cases z with
       | non =>
        lcg_off;exact k H2 (by lcg_sub)
       | _ =>
        lcg_off;exact dX _ (by keq_rows) z3 (fun H3 s3=>k H3 (by lcg_sub))
  | non=>simp only [Rep] at hd;subst hd;lcg_off;exact k H (Same.refl H)
  | bl b=>simp only [Rep] at hd;subst hd;lcg_off;exact k H (Same.refl H)
  | int i=>simp only [Rep] at hd;subst hd;lcg_off;exact k H (Same.refl H)
  | str i=>simp only [Rep] at hd;subst hd;lcg_off;exact k H (Same.refl H)
  | lst ds=>simp only [Rep] at hd;obtain ⟨a,vs,rfl,h1,_⟩:=hd;lcg_off;exact k H (Same.refl H)
  | dct=>simp only [Rep] at hd;obtain ⟨a,vs,rfl,h1⟩:=hd;lcg_off;exact k H (Same.refl H)
end
section
def Ho:Sp:=fun vs H Q _=>∃ (v:V) (e:Ent),vs = [v]/\Rep H (aC e) v/\∀ p H',Same H H'->H' p = some (.tup [.str (gT e).1,.int (gT e).2])->Q (.ref p) H'
theorem wG:aq ["entry"] ["entry"] (ae ei):=⟨rfl,rfl,rfl,by decide +kernel,rfl,by decide +kernel,by decide +kernel⟩
theorem nY (T:Txt K mg) (N:Fn K mg "rank_of" ei ["entry"] f fd):FnOk P w K mg base cy (1) f fd ["entry"] (Ho):=by
 refine N.fu.okB wG (fun vs H Q E h=>?_) (fun bq A outer s H vs Q E hr h=>?_)
 ·obtain ⟨v,e,rfl,_⟩:=h
  rfl
 ·obtain ⟨v,e,rfl,he,q⟩:=h;obtain ⟨a,x,rfl,ha,hx⟩:=cG he;refine ⟨_,(ah (aj (jb (ai (aG ak (bv 0) b_int (fun _ _=>rfl)) (ai (JU wk (aG ak (bv 0) b_int (fun _ _=>rfl))) af rfl) rfl)))),?_⟩
  kas_types;lcg_off;exact q _ _ (by assumption) (by assumption)
def xX (K:W.Frag):Sp:=fun vs H Q _=>∃ (p:Addr) (xs:List V) (es:List Ent),vs = [.ref p]/\H p = some (.lst xs)/\Reps H (es.map aC) xs/\(es.map gT).Nodup/\es.length < 1000/\∀ xs' gC l H1,gC.Perm es->dR gC->H l = none->Same H H1->H1 l = some (.lst xs')->Reps H1 (gC.map aC) xs'->Q (.ref l) H1
theorem um:aq ["entries"] ["entries"] (ae dM):=⟨rfl,rfl,rfl,by decide +kernel,rfl,by decide +kernel,by decide +kernel⟩
theorem uJ (T:Txt K mg) (N:Fn K mg "in_order" dM ["entries"] f fd):FnOk P w K mg base cy (4) f fd ["entries"] (xX K):=by
 obtain ⟨_,_,eG⟩:=T.f_rank_of;have jy:=nY (P:=P) (w:=w) (base:=base) T eG;refine N.fu.okB um (fun vs H Q E h=>?_) (fun bq A outer s H vs Q E hr h=>?_)
 ·obtain ⟨p,xs,es,rfl,_⟩:=h
  rfl
 ·obtain ⟨p,xs,es,rfl,hp,cO,nd,hz,q⟩:=h;refine ⟨_,(ah (aj (yN T.b_sorted (ai (bv 0) af rfl) (d7 (v:=.ref _) ⟨_,eG.mgx,rfl⟩)))),?_⟩;kas_types;lcg_off;refine qq (SqL.of hp) cO nd (by omega) (fun e v he=>Ff (k:=1) eG jy (hr.mono (by decide:3 <= 3)).in1.in1 fun H1 s1 R hR=>⟨v,e,rfl,he.same s1,fun a H2 s2 h2=>?_⟩) (fun xs' gC l H1 a b c d f g=>q xs' gC l H1 a b c d f g)
  rw [<- kf_at he] at h2;exact hR a H2 s2 h2
theorem zp (es:List Ent) (hp:H p = some (.lst xs)) (cO:Reps H (es.map aC) xs) (nd:(es.map gT).Nodup) (hz:es.length < 1000) (q:∀ xs' gC l H1,gC.Perm es->dR gC->H l = none->Same H H1->H1 l = some (.lst xs')->Reps H1 (gC.map aC) xs'->Q (.ref l) H1):xX K [.ref p] H Q E:=⟨p,xs,es,rfl,hp,cO,nd,hz,q⟩
theorem Ec (e f:Ent):lH [.inl e.1,.inr (-e.2.1)] [.inl f.1,.inr (-f.2.1)] = eT (gT e) (gT f):=by
 unfold eT gT;simp only [lH]
 by_cases h:e.1 = f.1
 ·rw [if_pos h,if_pos h]
  by_cases h2:-e.2.1 = -f.2.1
  ·rw [if_pos h2];exact (decide_eq_false (by omega)).symm
  ·rw [if_neg h2]
 ·rw [if_neg h,if_neg h]
def x6:Sp:=fun vs H Q _=>∃ (v u:V) (e f:Ent),vs = [v,u]/\Rep H (aC e) v/\Rep H (aC f) u/\∀ H',Same H H'->Q (.bl (eT (gT e) (gT f))) H'
theorem nK:aq ["one","other"] ["one","other"] (ae cu):=⟨rfl,rfl,rfl,by decide +kernel,rfl,by decide +kernel,by decide +kernel⟩
theorem iU (T:Txt K mg) (N:Fn K mg "comes_ahead" cu ["one","other"] f fd):FnOk P w K mg base cy (2) f fd ["one","other"] (x6):=by
 obtain ⟨_,_,eG⟩:=T.f_rank_of;have jy:=nY (P:=P) (w:=w) (base:=base) T eG;refine N.fu.okB nK (fun vs H Q E h=>?_) (fun bq A outer s H vs Q E hr h=>?_)
 ·obtain ⟨v,u,e,f',rfl,_⟩:=h
  rfl
 ·obtain ⟨v,u,e,f',rfl,he,hf,q⟩:=h;refine ⟨_,(ah (aj (eW (IP (Nat.lt_of_le_of_lt (Nat.le_add_right _ 100) (aH hr))) (bF eG jy (hr.mono (by first | decide | omega)) (ai (bv 0) af rfl)) (bF eG jy (hr.mono (by first | decide | omega)) (ai (bv 1) af rfl)) (au _)))),?_⟩;kas_types;lcg_off;refine ⟨v,e,rfl,he,fun p1 H1 s1 h1=>?_⟩
  lcg_off;refine ⟨u,f',rfl,hf.same s1,fun p2 H2 s2 h2=>?_⟩;refine HW (as:=[.inl e.1,.inr (-e.2.1)]) (bs:=[.inl f'.1,.inr (-f'.2.1)]) (SqT.of (s2 _ _ h1)) (SqT.of h2) trivial ?_;rw [Ec];exact q _ (Same.tr s2 s1)
theorem ro {u:V} (e f:Ent) (he:Rep H (aC e) v) (hf:Rep H (aC f) u) (q:∀ H',Same H H'->Q (.bl (eT (gT e) (gT f))) H'):x6 [v,u] H Q E:=⟨v,u,e,f,rfl,he,hf,q⟩
def jA (es:List Ent):Int:=wa (es.map (·.1))
def kJ (es:List Ent):Int:=(es.map (·.1)).foldl (mO (wa (es.map (·.1)))) 0
def Ga (K:W.Frag):Sp:=fun vs H Q _=>∃ (p:Addr) (xs:List V) (es:List Ent),vs = [.ref p]/\H p = some (.tup xs)/\Reps H (es.map aC) xs/\es.length < 1000/\cf H/\∀ t H1,SameB bG H H1->cf H1->H1 t = some (.tup [.int (jA es),.int (kJ es)])->Q (.ref t) H1
theorem jB:aq ["entries"] ["entries"] (ae aP):=⟨rfl,rfl,rfl,by decide +kernel,rfl,by decide +kernel,by decide +kernel⟩
theorem dm (T:Txt K mg) (j6:∀ p ∈ tabs,base.BuiltinsAt mg p) (kIn:K.In base) (N:Fn K mg "sieve_of_entries" aP ["entries"] f fd):FnOk P w K mg base cy (4) f fd ["entries"] (Ga K):=by
 obtain ⟨_,_,pd⟩:=T.f_sieve_of;have xJ:=uE (P:=P) (w:=w) (base:=base) T j6 kIn pd;refine N.fu.okB jB (fun vs H Q E h=>?_) (fun bq A outer s H vs Q E hr h=>?_)
 ·obtain ⟨p,xs,es,rfl,_⟩:=h
  rfl
 ·obtain ⟨p,xs,es,rfl,hp,cO,hz,tok,q⟩:=h;have Uo:=cO.length;rw [List.length_map] at Uo;refine ⟨_,(ah (aj (bF pd xJ (hr.mono (by first | decide | omega)) (ai (j7 (x:="entry") (ix:=[]) (fv:=[]) (osc:=ae aP) rfl ⟨rfl,by decide +kernel,by decide +kernel,by rfl,by decide +kernel,by decide +kernel,by decide +kernel⟩ (by rfl) (lP (bv 0)) (fun _ _ _ _=>fj) (fun _ _ _ _=>(aG (cR (K:=K) rfl) (bv 0) b_int (fun _ _=>rfl)))) af rfl)))),?_⟩
  kas_types;lcg_off;refine Fb (xs:=xs) (fun i us F=>F = H/\us = ((es.take i).map (·.1)).map V.str/\i <= es.length) (by rw [<- Uo,sizeLine_eq];omega) ⟨rfl,rfl,Nat.zero_le _⟩ (fun i us F h=>⟨by rw [h.1];exact SqT.of hp,by rw [h.2.1,List.length_map,List.length_map,List.length_take];have:=h.2.2;omega⟩) (fun i v us F hv h=>?_) (fun us pu F F1 h wc sF hF=>?_)
  ·obtain ⟨rfl,rfl,f3⟩:=h;obtain ⟨e,he,hve⟩:=cO.at hv;obtain ⟨kQ,vp⟩:=List.getElem?_eq_some_iff.mp he;obtain ⟨c,x,ec,hc,hx⟩:=cG hve;rw [ec];lcg_off;exact ⟨rfl,by rw [List.take_succ_eq_append_getElem kQ,vp,List.map_append,List.map_append];rfl,kQ⟩
  obtain ⟨rfl,rfl,_⟩:=h;rw [<- Uo,List.take_length] at hF;lcg_off;refine ug (es.map (·.1)) hF (by rw [List.length_map];exact hz) (tok.same sF) (fun t H1 s1 t1 ht=>?_)
  exact q t H1 ((SameB.of sF).trans s1) t1 ht
theorem rH (es:List Ent) (hp:H p = some (.tup xs)) (cO:Reps H (es.map aC) xs) (hz:es.length < 1000) (tok:cf H) (q:∀ t H1,SameB bG H H1->cf H1->H1 t = some (.tup [.int (jA es),.int (kJ es)])->Q (.ref t) H1):Ga K [.ref p] H Q E:=⟨p,xs,es,rfl,hp,cO,hz,tok,q⟩
def xT (K:W.Frag):Sp:=fun vs H Q _=>∃ (p:Addr) (xs:List V) (es:List Ent),vs = [.ref p]/\H p = some (.lst xs)/\Reps H (es.map aC) xs/\(es.map gT).Nodup/\es.length < 1000/\cf H/\∀ r t pu xs' gC H1,gC.Perm es->dR gC->SameB bG H H1->cf H1->H1 r = some (.tup [.ref t,.ref pu])->H1 t = some (.tup [.int (jA gC),.int (kJ gC)])->H1 pu = some (.tup xs')->Reps H1 (gC.map aC) xs'->Q (.ref r) H1
theorem qt:aq ["entries","ordered"] ["entries"] (ae fJ):=⟨rfl,rfl,rfl,by decide +kernel,rfl,by decide +kernel,by decide +kernel⟩
theorem zt (T:Txt K mg) (j6:∀ p ∈ tabs,base.BuiltinsAt mg p) (kIn:K.In base) (N:Fn K mg "run_of" fJ ["entries"] f fd):FnOk P w K mg base cy (5) f fd ["entries"] (xT K):=by
 obtain ⟨_,_,pC⟩:=T.f_in_order;have xO:=uJ (P:=P) (w:=w) (base:=base) T pC;obtain ⟨_,_,aQ⟩:=T.f_sieve_of_entries;have bW:=dm (P:=P) (w:=w) (base:=base) T j6 kIn aQ;refine N.fu.okB qt (fun vs H Q E h=>?_) (fun bq A outer s H vs Q E hr h=>?_)
 ·obtain ⟨p,xs,es,rfl,_⟩:=h
  rfl
 ·obtain ⟨p,xs,es,rfl,hp,cO,nd,hz,tok,q⟩:=h;refine ⟨_,(ag (av (i:=1) qt.nd rfl (by first | exact Or.inl rfl | exact Or.inr rfl) (JV yK T.b_tuple (by kernel_rfl) (ai (bF pC xO (hr.mono (by first | decide | omega)) (ai (bv 0) af rfl)) af rfl)))
  (ah (aj (jb (ai (bF aQ bW (hr.mono (by first | decide | omega)) (ai (bv 1) af rfl)) (ai (bv 1) af rfl) rfl))))),?_⟩
  kas_types;lcg_off;refine zp es hp cO nd hz (fun xs' gC l H1 pm rise hl s1 h1 Fs=>?_);lcg_off;refine qz (SqL.of h1) (fun pu H2 wc s2 h2=>?_);lcg_off;have hl':=pm.length_eq;have t2:=tok.same (Same.tr s2 s1);refine rH gC h2 (Fs.same s2) (by omega) t2 (fun t H3 s3 t3 h3=>?_);obtain ⟨qs,hT⟩:=t2.tbl;have YR:=s3.toN hT;lcg_off;rename_i r H4 s4 h4;refine q r t pu xs' gC H4 pm rise (((SameB.of (Same.tr s2 s1)).trans s3).trans (.of s4)) (t3.same s4) h4 (s4 _ _ h3) (s4 _ _ (YR _ _ h2 (fun _ z=>by cases z))) ((Reps.sameN YR (Fs.same s2)).same s4)
theorem za (es:List Ent) (hp:H p = some (.lst xs)) (cO:Reps H (es.map aC) xs) (nd:(es.map gT).Nodup) (hz:es.length < 1000) (tok:cf H) (q:∀ r t pu xs' gC H1,gC.Perm es->dR gC->SameB bG H H1->cf H1->H1 r = some (.tup [.ref t,.ref pu])->H1 t = some (.tup [.int (jA gC),.int (kJ gC)])->H1 pu = some (.tup xs')->Reps H1 (gC.map aC) xs'->Q (.ref r) H1):xT K [.ref p] H Q E:=⟨p,xs,es,rfl,hp,cO,nd,hz,tok,q⟩
end
section
def tj (d e:L2.D):Bool:=match d,e with
 | .tup [.str a,.int s,_],.tup [.str b,.int t,_]=>eT (a,-s) (b,-t)
 | _,_=>false
def oT (ds:List L2.D):Bool:=(List.range (ds.length - 1)).all fun i=>tj (ds.getD i .non) (ds.getD (i + 1) .non)
def tf:L2.D->Bool
 | .tup ds=>!ds.isEmpty && (ds.all d5 && oT ds)
 | _=>false
def pairD:L2.D->Bool
 | .tup [_,_]=>true
 | _=>false
theorem C2 {d:L2.D} (h:d5 d = true):∃ e:Ent,d = aC e:=by
 match d,h with
 | .tup [a,b,c],h =>
  simp only [d5,Bool.and_eq_true] at h;obtain ⟨⟨h1,h2⟩,h3⟩:=h
  match a,b,c,h1,h2,h3 with
  | .str x,.int n,.non,_,_,_=>exact ⟨(x,n,none),rfl⟩
  | .str x,.int n,.str y,_,_,_=>exact ⟨(x,n,some y),rfl⟩
theorem sT:∀ {ds:List L2.D},ds.all d5 = true->∃ es:List Ent,ds = es.map aC
 | [],_=>⟨[],rfl⟩
 | d :: ds,h=>by
  rw [List.all_cons,Bool.and_eq_true] at h;obtain ⟨e,rfl⟩:=C2 h.1;obtain ⟨es,rfl⟩:=sT h.2;exact ⟨e :: es,rfl⟩
theorem Gn:∀ {ds:List L2.D} {i:Nat} {d:L2.D},jR ds = true->ds[i]? = some d->tw d = true
 | d :: ds,0,_,h,e=>by
  simp only [jR,Bool.and_eq_true] at h;simp at e;rw [<- e];exact h.1
 | d :: ds,i + 1,x,h,e=>by
  simp only [jR,Bool.and_eq_true] at h;exact Gn h.2 (by simpa using e)
def Gk:Sp:=fun vs H Q _=>∃ v d,vs = [v]/\Rep H d v/\tw d = true/\(∀ ds,d = .tup ds->ds.length < 1000)/\∀ H',Same H H'->Q (.bl (tf d)) H'
theorem gQ:aq ["thing"] ["thing"] (ae aJ):=⟨rfl,rfl,rfl,by decide +kernel,rfl,by decide +kernel,by decide +kernel⟩
theorem gX (T:Txt K mg) (N:Fn K mg "are_entries_of_a_run" aJ ["thing"] f fd):FnOk P w K mg base cy (4) f fd ["thing"] (Gk):=by
 obtain ⟨_,_,dw⟩:=T.f_comes_ahead;have gL:=iU (P:=P) (w:=w) (base:=base) T dw;obtain ⟨_,_,gn⟩:=T.f_is_entry;have kc:=lY (P:=P) (w:=w) (base:=base) T gn;refine N.fu.okB gQ (fun vs H Q E h=>?_) (fun bq A outer s H vs Q E hr h=>?_)
 ·obtain ⟨v,d,rfl,_⟩:=h
  rfl
 ·obtain ⟨v,d,rfl,hd,hz,hb,k⟩:=h;refine ⟨_,(ag (aL (eF (dt (bU (bh (eZ dg T.b_isinstance (by kernel_rfl) (ai (bv 0) (ai (oX (T:="tuple") T.b_tuple (by kernel_rfl)) af rfl) rfl)) (fun _=>rfl))) (dn (ax (ck (aH hr)) (eZ bT T.b_len (by kernel_rfl) (ai (bv 0) af rfl)) b_int (au _)))))
   (ah (aj iJ))
   aw)
  (ag (aL (bU (bh (eZ (qZ rfl) T.b_all (by kernel_rfl) (ai (j7 (x:="entry") (ix:=[]) (fv:=[]) (osc:=ae aJ) rfl ⟨rfl,by decide +kernel,by decide +kernel,by rfl,by decide +kernel,by decide +kernel,by decide +kernel⟩ (by rfl) (lP (bv 0)) (fun _ _ _ _=>fj) (fun _ _ _ _=>(bF gn kc (hr.mono (by first | decide | omega)) (ai (bv 0) af rfl)))) af rfl)) (fun _=>rfl)))
   (ah (aj iJ))
   aw)
  (ah (aj (eZ (qZ rfl) T.b_all (by kernel_rfl) (ai (j7 (x:="place") (ix:=[0]) (fv:=["thing"]) (osc:=ae aJ) rfl ⟨rfl,by decide +kernel,by decide +kernel,by rfl,by decide +kernel,by decide +kernel,by decide +kernel⟩ (by rfl) (vM T.b_range (ai (az iQ (eZ bT T.b_len (by kernel_rfl) (ai (bv 0) af rfl)) b_int) af rfl)) (fun _ _ _ _=>fj) (fun _ _ _ _=>(bF dw gL (hr.mono (by first | decide | omega)) (ai (aG (cR (K:=K) rfl) (bv 1) (bv 0) (fun _ _=>rfl)) (ai (aG (cR (K:=K) rfl) (bv 1) (az (Ck (K:=K) rfl) (bv 0) b_int) (fun _ _=>rfl)) af rfl) rfl)))) af rfl)))))),?_⟩
  kas_types
  cases d with
  | tup ds =>
   obtain ⟨a,vs,rfl,h1,h2⟩:=hd.tupE;have hl:=h2.length;have yA:=hb ds rfl;have LP:jR ds = true:=by simpa only [tw] using hz
   lcg_off;refine aI (fun c0=>?_) (fun c0=>?_)
   ·lcg_off;have e0:ds = []:=List.eq_nil_of_length_eq_zero (by omega);rw [e0] at k;exact k H (Same.refl H)
   have hne:ds.isEmpty = false:=by
    cases ds with
    | nil=>simp only [List.length_nil] at hl;exact absurd (by omega) c0
    | cons d r=>rfl
   simp only [tf,hne,Bool.not_false,Bool.true_and] at k;lcg_off;refine Fb (xs:=vs) (fun i us F=>Same H F/\us = ((ds.take i).map d5).map V.bl/\i <= ds.length) (by rw [<- hl,sizeLine_eq];omega) ⟨Same.refl _,rfl,Nat.zero_le _⟩ (fun i us F h=>⟨SqT.of (h.1 _ _ h1),by rw [h.2.1,List.length_map,List.length_map,List.length_take];have:=h.2.2;omega⟩) (fun i v us F hv h=>?_) (fun us pu F F1 h wc sF hF=>?_)
   ·obtain ⟨f1,rfl,f3⟩:=h;obtain ⟨d,Zo,hdv⟩:=Reps.at (f:=id) (es:=ds) (by rw [List.map_id];exact h2) hv;obtain ⟨kQ,vp⟩:=List.getElem?_eq_some_iff.mp Zo;lcg_off;refine dX d (Rep.same f1 hdv) (Gn LP Zo) (fun F2 s2=>?_)
    exact ⟨Same.tr s2 f1,by rw [List.take_succ_eq_append_getElem kQ,vp,List.map_append,List.map_append];rfl,kQ⟩
   obtain ⟨f1,rfl,_⟩:=h;rw [<- hl,List.take_length] at hF;have s1:Same H F1:=Same.tr sF f1;lcg_off;refine lz (ds.map d5) (SqL.of hF) ?_;rw [List.all_map,show (id ∘ d5) = d5 from rfl];lcg_off;refine fW (fun c1=>?_) (fun c1=>?_)
   ·rw [c1,Bool.false_and] at k;lcg_off;exact k F1 s1
   rw [c1,Bool.true_and] at k;obtain ⟨es,rfl⟩:=sT c1;rw [List.length_map] at hl yA;have Zy:=s1 _ _ h1;have Zx:=h2.same s1;lcg_off;obtain ⟨n,hn⟩:∃ n:Nat,((vs.length:Int) - 1).toNat = n:=⟨_,rfl⟩
   have N1:n + 1 = es.length:=by omega
   rw [hn];refine SQ (fun i us F=>Same F1 F/\us = ((List.range i).map fun j=>tj ((es.map aC).getD j .non) ((es.map aC).getD (j + 1) .non)).map V.bl) (by rw [sizeLine_eq];omega) ⟨Same.refl _,rfl⟩ (fun i us F h=>by rw [h.2,List.length_map,List.length_map,List.length_range]) (fun i us F hi h=>?_) (fun us pw F F2 h hpw sF2 Kr=>?_)
   ·obtain ⟨g1,rfl⟩:=h;have L8:i < es.length:=by omega
    have L7:i + 1 < es.length:=by omega
    obtain ⟨x,hx,rx⟩:=Zx.get (j:=i) (by rw [List.length_map];exact L8);obtain ⟨y,hy,ry⟩:=Zx.get (j:=i + 1) (by rw [List.length_map];exact L7);have ex:(es.map aC).getD i .non = aC es[i]:=by rw [List.getD_eq_getElem?_getD,List.getElem?_map,List.getElem?_eq_getElem L8];rfl
    have ey:(es.map aC).getD (i + 1) .non = aC es[i + 1]:=by rw [List.getD_eq_getElem?_getD,List.getElem?_map,List.getElem?_eq_getElem L7];rfl
    rw [ex] at rx;rw [ey] at ry;lcg_off;rw [show (0:Int) + (i:Int) = ((i:Nat):Int) by omega];refine rP (SqT.of (g1 _ _ Zy)) (bZ hx) ?_;lcg_off;rw [show ((i:Nat):Int) + 1 = ((i + 1:Nat):Int) by omega];refine rP (SqT.of (g1 _ _ Zy)) (bZ hy) ?_;lcg_off;refine ro es[i] es[i + 1] (rx.same g1) (ry.same g1) (fun F3 s3=>?_);refine ⟨Same.tr s3 g1,?_⟩;rw [List.range_succ,List.map_append,List.map_append]
    congr 1
    rw [List.map_cons,List.map_nil,List.map_cons,List.map_nil,ex,ey]
    rfl
   obtain ⟨g1,rfl⟩:=h;lcg_off;refine lz _ (SqL.of Kr) ?_;have e:((List.range n).map fun j=>tj ((es.map aC).getD j .non) ((es.map aC).getD (j + 1) .non)).all id = oT (es.map aC):=by
    unfold oT;rw [List.all_map,List.length_map,show es.length - 1 = n by omega]
    rfl
   rw [e];exact k F2 (Same.tr sF2 (Same.tr g1 s1))
  | non=>simp only [Rep] at hd;subst hd;lcg_off;exact k H (Same.refl H)
  | bl b=>simp only [Rep] at hd;subst hd;lcg_off;exact k H (Same.refl H)
  | int i=>simp only [Rep] at hd;subst hd;lcg_off;exact k H (Same.refl H)
  | str z=>simp only [Rep] at hd;subst hd;lcg_off;exact k H (Same.refl H)
  | lst ds=>simp only [Rep] at hd;obtain ⟨a,vs,rfl,h1,_⟩:=hd;lcg_off;exact k H (Same.refl H)
  | dct=>simp only [Rep] at hd;obtain ⟨a,vs,rfl,h1⟩:=hd;lcg_off;exact k H (Same.refl H)
theorem FL (d:L2.D) (hd:Rep H d v) (hz:tw d = true) (hb:∀ ds,d = .tup ds->ds.length < 1000) (k:∀ H',Same H H'->Q (.bl (tf d)) H'):Gk [v] H Q E:=⟨v,d,rfl,hd,hz,hb,k⟩
theorem wH:aq ["thing"] ["thing"] (ae ej):=⟨rfl,rfl,rfl,by decide +kernel,rfl,by decide +kernel,by decide +kernel⟩
theorem xh (T:Txt K mg) (N:Fn K mg "is_pair" ej ["thing"] f fd):FnOk P w K mg base cy (1) f fd ["thing"] (nE pairD):=by
 refine N.fu.okB wH (fun vs H Q E h=>?_) (fun bq A outer s H vs Q E hr h=>?_)
 ·obtain ⟨v,d,rfl,_⟩:=h
  rfl
 ·obtain ⟨v,d,rfl,hd,hz,k⟩:=h;have k:=k H (Same.refl H);refine ⟨_,(ah (aj (oZ (eZ dg T.b_isinstance (by kernel_rfl) (ai (bv 0) (ai (oX (T:="tuple") T.b_tuple (by kernel_rfl)) af rfl) rfl)) (mh (eW (ck (aH hr)) (eZ bT T.b_len (by kernel_rfl) (ai (bv 0) af rfl)) b_int (au _)))))),?_⟩;kas_types
  cases d with
  | tup ds =>
   obtain ⟨a,vs,rfl,h1,h2⟩:=hd.tupE;have hl:=h2.length;lcg_off;have e:decide ((vs.length:Int) = 2) = pairD (.tup ds):=by
    match ds,hl with
    | [],hl=>rw [<- hl];rfl
    | [_],hl=>rw [<- hl];rfl
    | [_,_],hl=>rw [<- hl];rfl
    | _ :: _ :: _ :: r,hl =>
     rw [<- hl];simp only [List.length_cons,pairD];exact decide_eq_false (by omega)
   rw [e];exact k
  | int i=>simp only [Rep] at hd;subst hd;lcg_off;exact k
  | non=>simp only [Rep] at hd;subst hd;lcg_off;exact k
  | bl b=>simp only [Rep] at hd;subst hd;lcg_off;exact k
  | str z=>simp only [Rep] at hd;subst hd;lcg_off;exact k
  | lst ds=>simp only [Rep] at hd;obtain ⟨a,vs,rfl,h1,_⟩:=hd;lcg_off;exact k
  | dct=>simp only [Rep] at hd;obtain ⟨a,vs,rfl,h1⟩:=hd;lcg_off;exact k
theorem C0 {n m' n':Int} (h:H p = some (.tup [.int m,.int n])) (h':H p' = some (.tup [.int m',.int n'])) (q:Q (.bl (decide (m = m'/\n = n'))) H):rS (.ref p) (.ref p') H Q:=by
 refine ⟨.tup [.int m,.int n],.tup [.int m',.int n'],by simp only [Rep,Reps];exact ⟨p,_,rfl,h,_,_,rfl,rfl,_,_,rfl,rfl,rfl⟩,by simp only [Rep,Reps];exact ⟨p',_,rfl,h',_,_,rfl,rfl,_,_,rfl,rfl,rfl⟩,by simp [D.dep,D.deps],by simp [D.dep,D.deps],?_⟩;have e:aK (.tup [.int m,.int n]) (.tup [.int m',.int n']) = decide (m = m'/\n = n'):=by
  simp [aK,eQ]
  rfl
 rw [e];exact q
end
section
def Fh:L2.D->Str
 | .tup (.str a :: _)=>a
 | _=>⟨#[]⟩
theorem lJ:∀ {es:List Ent},(es.map aC).map Fh = es.map (·.1)
 | []=>rfl
 | e :: es=>by rw [List.map_cons,List.map_cons,lJ];rfl
def gH (ds:List L2.D):L2.D->Bool
 | .tup [.int a,.int b]=>decide (a = wa (ds.map Fh)/\b = (ds.map Fh).foldl (mO (wa (ds.map Fh))) 0)
 | _=>false
def mG:L2.D->Bool
 | .tup [s,.tup ds]=>tf (.tup ds) && gH ds s
 | _=>false
theorem FN {d:L2.D} (h:tf d = true):∃ es:List Ent,d = .tup (es.map aC)/\1 <= es.length:=by
 match d,h with
 | .tup ds,h =>
  simp only [tf,Bool.and_eq_true] at h;obtain ⟨h1,h2,_⟩:=h;obtain ⟨es,rfl⟩:=sT h2;refine ⟨es,rfl,?_⟩
  cases es with
  | nil=>simp at h1
  | cons e r=>simp
theorem zb {d:L2.D} (h:pairD d = false):mG d = false:=by
 unfold mG
 split
 ·cases h
 ·rfl
theorem uh {ds:List L2.D} {d:L2.D} (h:pairD d = false):gH ds d = false:=by
 unfold gH
 split
 ·cases h
 ·rfl
def x4 (K:W.Frag):Sp:=fun vs H Q _=>∃ v d,vs = [v]/\Rep H d v/\tw d = true/\(∀ s ds,d = .tup [s,.tup ds]->ds.length < 1000)/\cf H/\∀ H1,SameB bG H H1->cf H1->Q (.bl (mG d)) H1
theorem qu:aq ["thing","sieve"] ["thing"] (ae fN):=⟨rfl,rfl,rfl,by decide +kernel,rfl,by decide +kernel,by decide +kernel⟩
theorem zw (T:Txt K mg) (j6:∀ p ∈ tabs,base.BuiltinsAt mg p) (kIn:K.In base) (N:Fn K mg "is_run" fN ["thing"] f fd):FnOk P w K mg base cy (5) f fd ["thing"] (x4 K):=by
 obtain ⟨_,_,aQ⟩:=T.f_sieve_of_entries;have bW:=dm (P:=P) (w:=w) (base:=base) T j6 kIn aQ;obtain ⟨_,_,lR⟩:=T.f_is_pair;have rC:=xh (P:=P) (w:=w) (base:=base) T lR;obtain ⟨_,_,d8⟩:=T.f_are_entries_of_a_run;have iE:=gX (P:=P) (w:=w) (base:=base) T d8;obtain ⟨_,_,bC⟩:=T.f_is_whole_number;have cS:=fQ (P:=P) (w:=w) (base:=base) T bC;refine N.fu.okB qu (fun vs H Q E h=>?_) (fun bq A outer s H vs Q E hr h=>?_)
 ·obtain ⟨v,d,rfl,_⟩:=h
  rfl
 ·obtain ⟨v,d,rfl,hd,hz,hb,tok,k⟩:=h;refine ⟨_,(ag (aL (eF (dt (bU (bh (bF lR rC (hr.mono (by first | decide | omega)) (ai (bv 0) af rfl)) (fun _=>rfl))) (dn (bU (bh (bF d8 iE (hr.mono (by first | decide | omega)) (ai (aG ak (bv 0) b_int (fun _ _=>rfl)) af rfl)) (fun _=>rfl))))))
   (ah (aj iJ))
   aw)
  (ag (av (i:=1) qu.nd rfl (by first | exact Or.inl rfl | exact Or.inr rfl) (aG ak (bv 0) b_int (fun _ _=>rfl)))
  (ag (aL (eF (dt (bU (bh (bF lR rC (hr.mono (by first | decide | omega)) (ai (bv 1) af rfl)) (fun _=>rfl))) (dt (bU (bh (bF bC cS (hr.mono (by first | decide | omega)) (ai (aG ak (bv 1) b_int (fun _ _=>rfl)) af rfl)) (fun _=>rfl))) (dn (bU (bh (bF bC cS (hr.mono (by first | decide | omega)) (ai (aG ak (bv 1) b_int (fun _ _=>rfl)) af rfl)) (fun _=>rfl)))))))
   (ah (aj iJ))
   aw)
  (ah (aj (eW (ck (aH hr)) (bv 1) (bF aQ bW (hr.mono (by first | decide | omega)) (ai (aG ak (bv 0) b_int (fun _ _=>rfl)) af rfl)) (au _))))))),?_⟩
  kas_types;lcg_off;refine dX d hd hz (fun H1 s1=>?_);have kS:∀ H',Same H H'->Q (.bl (mG d)) H':=fun H' s=>k H' (.of s) (tok.same s)
  lcg_off;refine fW (fun c1=>?_) (fun c1=>?_)
  ·have e:mG d = false:=zb c1;rw [e] at kS;lcg_off;exact kS _ s1
  obtain ⟨s,t,rfl⟩:∃ s t,d = .tup [s,t]:=by
   match d,c1 with
   | .tup [s,t],_=>exact ⟨s,t,rfl⟩
  obtain ⟨a,vs,rfl,h1,h2⟩:=hd.tupE;obtain ⟨vx,_,rfl,hx,h3⟩:=h2.consE;obtain ⟨vy,_,rfl,hy,h4⟩:=h3.consE;obtain rfl:=h4.nilE;simp only [tw,jR,Bool.and_eq_true] at hz;obtain ⟨z1,z2,_⟩:=hz;have jC:=s1 _ _ h1;lcg_off;refine FL t (hy.same s1) z2 (fun ds e=>hb s ds (by rw [e])) (fun H2 s2=>?_)
  have h1b:=s2 _ _ jC;have Kc:Same H H2:=Same.tr s2 s1;lcg_off;refine fW (fun c2=>?_) (fun c2=>?_)
  ·have e:mG (.tup [s,t]) = false:=by
    cases t with
    | tup ds=>simp only [mG];rw [show tf (.tup ds) = false from c2,Bool.false_and]
    | _=>rfl
   rw [e] at kS;lcg_off;exact kS _ Kc
  obtain ⟨es,rfl,UG⟩:=FN c2;have yA:=hb s _ rfl;rw [List.length_map] at yA;have eR:mG (.tup [s,.tup (es.map aC)]) = gH (es.map aC) s:=by
   simp only [mG];rw [c2,Bool.true_and]
  rw [eR] at k kS;lcg_off;refine dX s (hx.same Kc) z1 (fun H3 s3=>?_);have h1c:=s3 _ _ h1b;have NJ:Same H H3:=Same.tr s3 Kc;lcg_off;refine fW (fun c3=>?_) (fun c3=>?_)
  ·have e:gH (es.map aC) s = false:=uh c3;rw [e] at kS;lcg_off;exact kS _ NJ
  obtain ⟨m,n,rfl⟩:∃ m n,s = .tup [m,n]:=by
   match s,c3 with
   | .tup [m,n],_=>exact ⟨m,n,rfl⟩
  obtain ⟨b,us,rfl,g1,g2⟩:=hx.tupE;obtain ⟨ux,_,rfl,gx,g3⟩:=g2.consE;obtain ⟨uy,_,rfl,gy,g4⟩:=g3.consE;obtain rfl:=g4.nilE;simp only [tw,jR,Bool.and_eq_true] at z1;obtain ⟨z3,z4,_⟩:=z1;have g1c:=NJ _ _ g1;lcg_off;refine dX m (gx.same NJ) z3 (fun H4 s4=>?_)
  have g1d:=s4 _ _ g1c;have Pu:Same H H4:=Same.tr s4 NJ;lcg_off;refine fW (fun c4=>?_) (fun c4=>?_)
  ·have e:gH (es.map aC) (.tup [m,n]) = false:=by
    cases m with
    | int i=>cases c4
    | _=>rfl
   rw [e] at kS;lcg_off;exact kS _ Pu
  lcg_off;refine dX n (gy.same Pu) z4 (fun H5 s5=>?_);have g1e:=s5 _ _ g1d;have HE:Same H H5:=Same.tr s5 Pu;lcg_off;refine fW (fun c5=>?_) (fun c5=>?_)
  ·have e:gH (es.map aC) (.tup [m,n]) = false:=by
    cases m with
    | int i =>
     cases n with
     | int j=>cases c5
     | _=>rfl
    | _=>rfl
   rw [e] at kS;lcg_off;exact kS _ HE
  obtain ⟨i,rfl⟩:∃ i,m = .int i:=by
   cases m with
   | int i=>exact ⟨i,rfl⟩
   | _=>cases c4
  obtain ⟨j,rfl⟩:∃ j,n = .int j:=by
   cases n with
   | int j=>exact ⟨j,rfl⟩
   | _=>cases c5
  obtain rfl:ux = .int i:=by simpa only [Rep] using gx
  obtain rfl:uy = .int j:=by simpa only [Rep] using gy
  obtain ⟨ay,ys,rfl,hya,hyr⟩:=hy.tupE;have h1e:=HE _ _ h1;lcg_off;refine rH es (HE _ _ hya) (hyr.same HE) yA (tok.same HE) (fun q H6 s6 t6 h6=>?_)
  obtain ⟨qs,hT⟩:=(tok.same HE).tbl;refine C0 (s6.toN hT _ _ g1e (fun _ z=>by cases z)) h6 ?_
  have e:decide (i = jA es/\j = kJ es) = gH (es.map aC) (.tup [.int i,.int j]):=by
   simp only [gH];rw [lJ]
   rfl
  rw [e];exact k H6 ((SameB.of HE).trans s6) t6
theorem zN (d:L2.D) (hd:Rep H d v) (hz:tw d = true) (hb:∀ s ds,d = .tup [s,.tup ds]->ds.length < 1000) (tok:cf H) (k:∀ H1,SameB bG H H1->cf H1->Q (.bl (mG d)) H1):x4 K [v] H Q E:=⟨v,d,rfl,hd,hz,hb,tok,k⟩
def uq (es:List Ent):L2.D:=.tup [.tup [.int (jA es),.int (kJ es)],.tup (es.map aC)]
theorem oM (h:tD e):d5 (aC e) = true:=by
 obtain ⟨⟨a1,a2,a3⟩,⟨b1,b2⟩,c⟩:=h;unfold aC;simp only [d5,Bool.and_eq_true];refine ⟨⟨?_,?_⟩,?_⟩
 ·simp only [iM,iu];rw [decide_eq_true (by omega),Bool.true_and];exact a3
 ·simp only [nC];exact decide_eq_true (by omega)
 ·cases hv:e.2.2 with
  | none=>rfl
  | some z =>
   rw [hv] at c;simp only [oD,Kx,iM,iu];rw [decide_eq_true ⟨by omega,by have:=c.1;omega⟩,Bool.true_and];exact c.2
theorem yE:∀ {es:List Ent},(∀ e ∈ es,tD e)->(es.map aC).all d5 = true
 | [],_=>rfl
 | e :: es,h=>by
  rw [List.map_cons,List.all_cons,oM (h e List.mem_cons_self),yE fun e he=>h e (List.mem_cons_of_mem _ he)]
  rfl
theorem wC (h:tD e):tw (aC e) = true:=by
 obtain ⟨⟨a1,a2,a3⟩,_,c⟩:=h;unfold aC;simp only [tw,jR,Bool.and_eq_true];refine ⟨decide_eq_true (by rw [sizeLine_eq];omega),trivial,?_,trivial⟩
 cases hv:e.2.2 with
 | none=>rfl
 | some z =>
  rw [hv] at c;simp only [oD,tw];exact decide_eq_true (by have:=c.1;rw [sizeLine_eq];omega)
theorem x8:∀ {es:List Ent},(∀ e ∈ es,tD e)->jR (es.map aC) = true
 | [],_=>by simp only [List.map_nil,jR]
 | e :: es,h=>by
  rw [List.map_cons];simp only [jR,Bool.and_eq_true];exact ⟨wC (h e List.mem_cons_self),x8 fun e he=>h e (List.mem_cons_of_mem _ he)⟩
theorem Ah (e f:Ent):tj (aC e) (aC f) = eT (gT e) (gT f):=rfl
theorem Dd (h:dR es):oT (es.map aC) = true:=by
 unfold oT;rw [List.all_eq_true];intro i hi;rw [List.mem_range,List.length_map] at hi;have L8:i < es.length:=by omega
 have L7:i + 1 < es.length:=by omega
 have ex:(es.map aC).getD i .non = aC es[i]:=by rw [List.getD_eq_getElem?_getD,List.getElem?_map,List.getElem?_eq_getElem L8];rfl
 have ey:(es.map aC).getD (i + 1) .non = aC es[i + 1]:=by rw [List.getD_eq_getElem?_getD,List.getElem?_map,List.getElem?_eq_getElem L7];rfl
 rw [ex,ey,Ah];exact List.pairwise_iff_getElem.mp h i (i + 1) L8 L7 (Nat.lt_succ_self i)
theorem J5 (h:dR es) (ho:∀ e ∈ es,tD e) (hl:1 <= es.length):tf (.tup (es.map aC)) = true:=by
 simp only [tf];rw [yE ho,Dd h]
 cases es with
 | nil=>simp at hl
 | cons e r=>rfl
theorem HH (h:dR es) (ho:∀ e ∈ es,tD e) (hl:1 <= es.length):mG (uq es) = true:=by
 unfold uq;simp only [mG,gH];rw [J5 h ho hl,lJ];exact decide_eq_true ⟨rfl,rfl⟩
theorem Hu (ho:∀ e ∈ es,tD e):tw (uq es) = true:=by
 unfold uq;simp only [tw,jR,x8 ho]
 rfl
theorem Ed {t pu:Addr} (hr:H r = some (.tup [.ref t,.ref pu])) (ht:H t = some (.tup [.int (jA es),.int (kJ es)])) (wc:H pu = some (.tup xs)) (cO:Reps H (es.map aC) xs):Rep H (uq es) (.ref r) :=
 Rep.mkT hr (Reps.cons' (Rep.mkT ht (Reps.cons' Rep.int' (Reps.cons' Rep.int' Reps.nil'))) (Reps.cons' (Rep.mkT wc cO) Reps.nil'))
theorem Eb (h:es.length < 1000):∀ s ds,uq es = .tup [s,.tup ds]->ds.length < 1000:=fun s ds e=>by
 unfold uq at e;simp only [D.tup.injEq,List.cons.injEq,and_true] at e;rw [<- e.2,List.length_map];exact h
end
section
def x5:Sp:=fun vs H Q _=>∃ (u v:V) (e:Ent),vs = [u,v]/\Rep H (aC e) u/\Rep H (aC e) v/\Q (.bl true) H
theorem jV:aq ["_law_told","_law_due_here"] ["_law_told","_law_due_here"] (ae ba):=⟨rfl,rfl,rfl,by decide +kernel,rfl,by decide +kernel,by decide +kernel⟩
theorem fS (T:Txt K mg) (N:Fn K mg "_law_entry_same" ba ["_law_told","_law_due_here"] f fd):FnOk P w K mg base cy (1) f fd ["_law_told","_law_due_here"] (x5):=by
 refine N.fu.okB jV (fun vs H Q E h=>?_) (fun bq A outer s H vs Q E hr h=>?_)
 ·obtain ⟨u,v,e,rfl,_⟩:=h
  rfl
 ·obtain ⟨u,v,e,rfl,h1,h2,q⟩:=h;obtain ⟨a,x,rfl,ha,hx⟩:=cG h1;obtain ⟨b,y,rfl,hb,hy⟩:=cG h2;refine ⟨_,(ag (aL (eF (dt (bU (bh (eZ dg T.b_isinstance (by kernel_rfl) (ai (bv 0) (ai (oX (T:="tuple") T.b_tuple (by kernel_rfl)) af rfl) rfl)) (fun _=>rfl))) (dt (ax (hU (aH hr)) (eZ bT T.b_len (by kernel_rfl) (ai (bv 0) af rfl)) b_int (au _)) (dt (bU (bh (eZ dg T.b_isinstance (by kernel_rfl) (ai (aG ak (bv 0) b_int (fun _ _=>rfl)) (ai (oX (T:="str") T.b_str (by kernel_rfl)) af rfl) rfl)) (fun _=>rfl))) (dn (ax (hU (aH hr)) (aG ak (bv 0) b_int (fun _ _=>rfl)) (aG ak (bv 1) b_int (fun _ _=>rfl)) (au _)))))))
   (ah (aj iJ))
   aw)
  (ag (aL (eF (dt (bh (eZ dg T.b_isinstance (by kernel_rfl) (ai (aG ak (bv 0) b_int (fun _ _=>rfl)) (ai (oX (T:="bool") T.b_bool (by kernel_rfl)) af rfl) rfl)) (fun _=>rfl)) (dt (bU (bh (eZ dg T.b_isinstance (by kernel_rfl) (ai (aG ak (bv 0) b_int (fun _ _=>rfl)) (ai (oX (T:="int") T.b_int (by kernel_rfl)) af rfl) rfl)) (fun _=>rfl))) (dn (ax (hU (aH hr)) (aG ak (bv 0) b_int (fun _ _=>rfl)) (aG ak (bv 1) b_int (fun _ _=>rfl)) (au _))))))
   (ah (aj iJ))
   aw)
  (ag (aL (eF (dt (ax iw (aG ak (bv 1) b_int (fun _ _=>rfl)) bB (au _)) (dn (ax iw (aG ak (bv 0) b_int (fun _ _=>rfl)) bB (au _)))))
   (ah (aj (oZ (eW iw (aG ak (bv 1) b_int (fun _ _=>rfl)) bB (au _)) (mh (eW iw (aG ak (bv 0) b_int (fun _ _=>rfl)) bB (au _))))))
   aw)
  (ah (aj (oZ (eZ dg T.b_isinstance (by kernel_rfl) (ai (aG ak (bv 0) b_int (fun _ _=>rfl)) (ai (oX (T:="str") T.b_str (by kernel_rfl)) af rfl) rfl)) (mh (eW (ck (aH hr)) (aG ak (bv 0) b_int (fun _ _=>rfl)) (aG ak (bv 1) b_int (fun _ _=>rfl)) (au _))))))))),?_⟩
  kas_types;lcg_off;rw [if_neg (by simp)];lcg_off;rw [if_neg (by simp)];lcg_off;rw [if_neg (by simp)];lcg_off
  cases ho:e.2.2 with
  | none =>
   rw [ho] at hx hy;have e1:x = .non:=by simpa only [oD,Rep] using hx
   have e2:y = .non:=by simpa only [oD,Rep] using hy
   subst e1 e2;lcg_off;exact q
  | some z =>
   rw [ho] at hx hy;have e1:x = .str z:=by simpa only [oD,Rep] using hx
   have e2:y = .str z:=by simpa only [oD,Rep] using hy
   subst e1 e2;lcg_off;rw [show decide (z = z) = true by simp];exact q
theorem qT {u:V} (e:Ent) (h1:Rep H (aC e) u) (h2:Rep H (aC e) v) (q:Q (.bl true) H):x5 [u,v] H Q E:=⟨u,v,e,rfl,h1,h2,q⟩
theorem LA {ix : List Nat} {te : TE} {tt : TT} {lo : Int} {n : Nat} (W : Nat -> List V -> Hp -> Prop) (hz : n <= sizeLine) (h0 : W 0 [] H) (hl : ∀ i ys H', W i ys H' -> ys.length <= i)
    (hE:∀ i ys H',i < n->W i ys H'->tt (some (.int (lo + i)) :: pick ix σ) H' fun b H4=>if b = true then te (some (.int (lo + i)) :: pick ix σ) H4 fun y H5=>W (i + 1) (ys ++ [y]) H5 else W (i + 1) ys H4)
    (hQ:∀ ys p H' H1,W n ys H'->H' p = none->Same H' H1->H1 p = some (.lst ys)->Q (.ref p) H1):Au (Av lo n) ix σ tt te Q H:=by
 refine ⟨fun i m ys H2=>m = n - i/\i <= n/\W i ys H2,⟨n,by simp,Nat.zero_le _,h0⟩,?_⟩
 rintro i m ys H2 ⟨rfl,hi,w⟩;have e:=hl i ys H2 w
 by_cases ed:i < n
 ·refine .inr ⟨ed,by omega,fun x H3 y=>?_⟩;obtain ⟨rfl,rfl⟩:=y;have ex:∀ (zs:List V) (H5:Hp),(∃ m',m' < n - i/\m' = n - (i + 1)/\i + 1 <= n/\W (i + 1) zs H5) = W (i + 1) zs H5:=fun zs H5 =>
   propext ⟨fun ⟨m',_,_,_,h⟩=>h,fun h=>⟨n - (i + 1),by omega,rfl,ed,h⟩⟩
  simp only [ex];exact hE i ys _ ed w
 ·have:i = n:=by omega
  subst this;exact .inl ⟨Nat.le_refl _,fun D hD=>hQ ys D H2 _ w hD (aU hD) aE⟩
theorem yD (h:H p = some (.lst [])) (h':H p' = some (.lst [])) (q:Q (.bl true) H):rS (.ref p) (.ref p') H Q:=by
 refine ⟨.lst [],.lst [],by simp only [Rep];exact ⟨p,[],rfl,h,by simp only [Reps]⟩,by simp only [Rep];exact ⟨p',[],rfl,h',by simp only [Reps]⟩,by simp [D.dep,D.deps],by simp [D.dep,D.deps],?_⟩;rw [gU];exact q
def qo (K:W.Frag):Sp:=fun vs H Q _=>∃ (p p':Addr) (xs ys:List V) (es:List Ent),vs = [.ref p,.ref p']/\(H p = some (.tup xs) \/ H p = some (.lst xs))/\Reps H (es.map aC) xs/\H p' = some (.lst ys)/\Reps H (es.map aC) ys/\es.length < 1000/\∀ H1,Same H H1->Q (.bl true) H1
theorem ll:aq ["_law_told","_law_due_here"] ["_law_told","_law_due_here"] (ae bg):=⟨rfl,rfl,rfl,by decide +kernel,rfl,by decide +kernel,by decide +kernel⟩
theorem gZ (T:Txt K mg) (N:Fn K mg "_law_all_same" bg ["_law_told","_law_due_here"] f fd):FnOk P w K mg base cy (2) f fd ["_law_told","_law_due_here"] (qo K):=by
 obtain ⟨_,_,cp⟩:=T.f__law_entry_same;have d9:=fS (P:=P) (w:=w) (base:=base) T cp;refine N.fu.okB ll (fun vs H Q E h=>?_) (fun bq A outer s H vs Q E hr h=>?_)
 ·obtain ⟨p,p',xs,ys,es,rfl,_⟩:=h
  rfl
 ·obtain ⟨p,p',xs,ys,es,rfl,hp,cO,vi,JD,hz,q⟩:=h;obtain ⟨L,l1,l2,l3⟩:=bR cO;obtain ⟨M,m1,m2,m3⟩:=bR JD;have yt:xs.length = es.length:=by rw [<- l1,<- l2,List.length_map,List.length_map]
  have Y':ys.length = es.length:=by rw [<- m1,<- m2,List.length_map,List.length_map]
  have ixP:∀ {G:Hp} {i:Nat} {v:V} {Q:VK},Same H G->xs[i]? = some v->Q v G->En K (.ref p) (.int (i:Int)) G Q:=fun {G i v Q} s e q=>hp.elim (fun h=>rP (SqT.of (s _ _ h)) (bZ e) q) (fun h=>dU (SqL.of (s _ _ h)) (bZ e) q)
  have SN:∀ {Q:VK},Q (.int (xs.length:Int)) H->zg K [.ref p] H Q:=fun {Q} q=>hp.elim (fun h=>yb (SqT.of h) q) (fun h=>yc (SqL.of h) q)
  clear hp;refine ⟨_,(ag (aL (ax (hU (aH hr)) (eZ bT T.b_len (by kernel_rfl) (ai (bv 0) af rfl)) (eZ bT T.b_len (by kernel_rfl) (ai (bv 1) af rfl)) (au _))
   (ah (aj iJ))
   aw)
  (ah (aj (eW (ck (aH hr)) (j7 (x:="_law_k") (ix:=[0,1]) (fv:=["_law_told","_law_due_here"]) (osc:=ae bg) rfl ⟨rfl,by decide +kernel,by decide +kernel,by rfl,by decide +kernel,by decide +kernel,by decide +kernel⟩ (by rfl) (vM T.b_range (ai (eZ bT T.b_len (by kernel_rfl) (ai (bv 1) af rfl)) af rfl)) (fun _ _ _ _=>(sX (bU (bh (bF cp d9 (hr.mono (by first | decide | omega)) (ai (aG (cR (K:=K) rfl) (bv 1) (bv 0) (fun _ _=>rfl)) (ai (aG (cR (K:=K) rfl) (bv 2) (bv 0) (fun _ _=>rfl)) af rfl) rfl)) (fun _=>rfl))))) (fun _ _ _ _=>(bv 0))) (fw af) (au _))))),?_⟩
  kas_types;lcg_off;refine SN ?_;lcg_off;rw [if_neg (by rw [yt,Y'];simp)];lcg_off;rw [show ((ys.length:Int)).toNat = ys.length from Int.toNat_natCast _];refine LA (fun i us F=>Same H F/\us = []) (by rw [Y',sizeLine_eq];omega) ⟨Same.refl _,rfl⟩ (fun i us F h=>by rw [h.2];exact Nat.zero_le _) (fun i us F hi h=>?_) (fun us pu F F1 h wc sF hF=>?_)
  ·obtain ⟨f1,rfl⟩:=h;have kQ:i < es.length:=by omega
   have US:i < L.length:=by rw [<- l1,List.length_map] at kQ;exact kQ
   have UQ:i < M.length:=by rw [<- m1,List.length_map] at kQ;exact kQ
   have e1:es[i]? = some (L[i]).1:=by rw [<- l1,List.getElem?_map,List.getElem?_eq_getElem US];rfl
   have e2:es[i]? = some (M[i]).1:=by rw [<- m1,List.getElem?_map,List.getElem?_eq_getElem UQ];rfl
   have e3:(M[i]).1 = (L[i]).1:=by rw [e1] at e2;exact (Option.some.inj e2).symm
   have hx:xs[i]? = some (L[i]).2:=by rw [<- l2,List.getElem?_map,List.getElem?_eq_getElem US];rfl
   have hy:ys[i]? = some (M[i]).2:=by rw [<- m2,List.getElem?_map,List.getElem?_eq_getElem UQ];rfl
   have r1:=(l3 _ (List.getElem_mem US)).same f1;have r2:=(m3 _ (List.getElem_mem UQ)).same f1;rw [e3] at r2;lcg_off;rw [show (0:Int) + (i:Int) = (i:Int) by omega];refine ixP f1 hx ?_;lcg_off;refine dU (SqL.of (f1 _ _ vi)) (bZ hy) ?_;lcg_off;refine qT _ r1 r2 ?_;lcg_off;exact ⟨f1,rfl⟩
  obtain ⟨f1,rfl⟩:=h;lcg_off;rename_i pe Fe Zh se he;refine yD (se _ _ hF) he ?_;exact q _ (Same.tr se (Same.tr sF f1))
theorem mi {ys:List V} (es:List Ent) (hp:H p = some (.tup xs) \/ H p = some (.lst xs)) (cO:Reps H (es.map aC) xs) (vi:H p' = some (.lst ys)) (JD:Reps H (es.map aC) ys) (hz:es.length < 1000) (q:∀ H1,Same H H1->Q (.bl true) H1):qo K [.ref p,.ref p'] H Q E:=⟨p,p',xs,ys,es,rfl,hp,cO,vi,JD,hz,q⟩
end
section
theorem qC (x:Str):Str.empty ++ x = x:=bp (by rw [app_list];rfl)
theorem ap (x y z:Str):x ++ y ++ z = x ++ (y ++ z):=bp (by rw [app_list,app_list,app_list,app_list,List.append_assoc])
theorem vQ (x:Str):x ++ Str.ofString "" = x:=bp (by rw [app_list];show _ ++ [] = _;rw [List.append_nil])
theorem xp:(Str.ofString "\n").length = 1:=by decide +kernel
theorem le_empty:(Str.ofString "").length = 0:=by decide +kernel
theorem hW (n:Nat) (h:n < 2 ^ 64):((n:Nat):Int).natAbs.log2 < 1920:=by
 rw [Int.natAbs_natCast]
 by_cases h0:n = 0
 ·rw [h0];decide
 ·have:=(Nat.log2_lt h0).mpr (Nat.lt_of_lt_of_le h (Nat.pow_le_pow_right (by decide) (show 64 <= 1920 by decide)));exact this
theorem sE {n:Nat} (h:n <= 999999999):(dk n).length <= 9:=fE (k:=9) (by omega) (by decide)
def A6:Sp:=fun vs H Q _=>∃ n k:Nat,vs = [.int (n:Nat),.int (k:Nat)]/\n < 10 ^ k/\n < 2 ^ 64/\1 <= k/\PadOk (k:Nat) = true/\Q (.str (fP n k)) H
theorem y9:aq ["number","width"] ["number","width"] (ae fL):=⟨rfl,rfl,rfl,by decide +kernel,rfl,by decide +kernel,by decide +kernel⟩
theorem zu (T:Txt K mg) (N:Fn K mg "padded" fL ["number","width"] f fd):FnOk P w K mg base cy (1) f fd ["number","width"] (A6):=by
 refine N.fu.okB y9 (fun vs H Q E h=>?_) (fun bq A outer s H vs Q E hr h=>?_)
 ·obtain ⟨n,k,rfl,_⟩:=h
  rfl
 ·obtain ⟨n,k,rfl,hn,JA,hk,vn,q⟩:=h;refine ⟨_,(ah (aj (Dl (JV G5 T.b_str (by kernel_rfl) (ai (bv 0) af rfl)) (ai (bv 1) af rfl)))),?_⟩;kas_types;lcg_off;refine Bt (hW _ JA) ?_;refine ⟨rfl,?_⟩;lcg_off;refine Bs vn ?_;rw [yS hn hk];exact q
theorem Cb (n k:Nat) (hi:i = (n:Nat)) (hj:j = (k:Nat)) (h1:n < 10 ^ k) (h2:n < 2 ^ 64) (h3:1 <= k) (h4:PadOk (k:Nat) = true) (q:Q (.str (fP n k)) H):A6 [.int i,.int j] H Q E:=⟨n,k,by rw [hi,hj],h1,h2,h3,h4,q⟩
def Gh:Sp:=fun vs H Q _=>∃ z:Str,vs = [.str z]/\z.length <= 5000/\∀ H',Same H H'->Q (.bl (iB z)) H'
theorem nM:aq ["text"] ["text"] (ae bI):=⟨rfl,rfl,rfl,by decide +kernel,rfl,by decide +kernel,by decide +kernel⟩
theorem oa (T:Txt K mg) (N:Fn K mg "are_figures" bI ["text"] f fd):FnOk P w K mg base cy (1) f fd ["text"] (Gh):=by
 refine N.fu.okB nM (fun vs H Q E h=>?_) (fun bq A outer s H vs Q E hr h=>?_)
 ·obtain ⟨z,rfl,_⟩:=h
  rfl
 ·obtain ⟨z,rfl,hz,q⟩:=h;have T':z.length <= sizeLine:=by rw [sizeLine_eq];omega
  refine ⟨_,(ah (aj (oZ (eW (hU (aH hr)) (bv 0) b_str (au _)) (mh (eZ (qZ rfl) T.b_all (by kernel_rfl) (ai (j7 (x:="sign") (ix:=[]) (fv:=[]) (osc:=ae bI) rfl ⟨rfl,by decide +kernel,by decide +kernel,by rfl,by decide +kernel,by decide +kernel,by decide +kernel⟩ (by rfl) (oW (bv 0)) (fun _ _ _ _=>fj) (fun _ _ _ _=>(eW qA (bv 0) (d7 T.g_FIGURES) rfl))) af rfl)))))),?_⟩
  kas_types;rw [show Str.ofString "0123456789" = G6 from rfl];lcg_off;refine fV (fun h1=>?_) (fun h1=>?_)
  ·lcg_off;refine SS (fun c=>.bl (jI c)) T' (fun c hc R h=>?_) (fun p H1 hp s1 hl=>?_)
   ·lcg_off;refine ⟨_,_,rfl,rfl,?_⟩;rw [CY];exact h
   lcg_off;refine lz (z.cps.toList.map jI) (SqL.of (by rw [hl,List.map_map];rfl)) ?_;have e:(z.cps.toList.map jI).all id = iB z:=by
    unfold iB;rw [List.all_map,decide_eq_true h1,Bool.true_and]
    rfl
   rw [e];exact q _ s1
  ·have e:iB z = false:=by
    unfold iB;rw [decide_eq_false (fun h=>h h1),Bool.false_and]
   rw [e] at q;exact q _ (Same.refl _)
theorem Fx (h:z.length <= 5000) (q:∀ H',Same H H'->Q (.bl (iB z)) H'):Gh [.str z] H Q E:=⟨z,rfl,h,q⟩
def uB:Option Int->V
 | none=>.non
 | some n=>.int n
def DD (least most:Int) (z:Str):Option Int:=if iB z = true/\least <= (L2.numM z:Int)/\(L2.numM z:Int) <= most then some (L2.numM z:Int) else none
def KN:Sp:=fun vs H Q _=>∃ (z:Str) (least most:Int),vs = [.str z,.int least,.int most]/\z.length <= 600/\∀ H',Same H H'->Q (uB (DD least most z)) H'
theorem iL:aq ["text","least","most","number"] ["text","least","most"] (ae cq):=⟨rfl,rfl,rfl,by decide +kernel,rfl,by decide +kernel,by decide +kernel⟩
theorem iS (T:Txt K mg) (N:Fn K mg "read_padded" cq ["text","least","most"] f fd):FnOk P w K mg base cy (2) f fd ["text","least","most"] (KN):=by
 obtain ⟨_,_,jM⟩:=T.f_are_figures;have p9:=oa (P:=P) (w:=w) (base:=base) T jM;refine N.fu.okB iL (fun vs H Q E h=>?_) (fun bq A outer s H vs Q E hr h=>?_)
 ·obtain ⟨z,least,most,rfl,_⟩:=h
  rfl
 ·obtain ⟨z,least,most,rfl,hz,q⟩:=h;have T':z.length <= sizeLine:=by rw [sizeLine_eq];omega
  refine ⟨_,(ag (aL (bU (bh (bF jM p9 (hr.mono (by first | decide | omega)) (ai (bv 0) af rfl)) (fun _=>rfl)))
   (ah (aj bB))
   aw)
  (ag (av (i:=3) iL.nd rfl (by first | exact Or.inl rfl | exact Or.inr rfl) (JV Nu T.b_int (by kernel_rfl) (ai (bv 0) af rfl)))
  (ah (aj (JX (vK oh oh (bv 1) (bv 3) (bv 2)) (bv 3) bB))))),?_⟩
  kas_types;lcg_off;refine Fx (by omega) (fun H1 s1=>?_);lcg_off
  cases hf:iB z with
  | false =>
   rw [show DD least most z = none from if_neg fun h=>by rw [hf] at h;exact absurd h.1 (by decide)] at q
   lcg_off;exact q _ s1
  | true =>
   have hit:=jv hf (by omega);lcg_off;refine Eh hit (by omega) ?_;lcg_off;refine aI (fun a1=>?_) (fun a1=>?_)
   ·lcg_off;refine aI (fun a2=>?_) (fun a2=>?_)
    ·rw [show DD least most z = some (L2.numM z:Int) from if_pos ⟨hf,a1,a2⟩] at q;lcg_off;exact q _ s1
    ·rw [show DD least most z = none from if_neg fun h=>a2 h.2.2] at q;lcg_off;exact q _ s1
   ·rw [show DD least most z = none from if_neg fun h=>a1 h.2.1] at q;lcg_off;exact q _ s1
theorem wJ (h1:z.length <= 600) (q:∀ H',Same H H'->Q (uB (DD least most z)) H'):KN [.str z,.int least,.int most] H Q E:=⟨z,least,most,rfl,h1,q⟩
theorem DX (z:Str):Txt.startswith z (Str.ofString "0") = true ↔ mS z.cps.toList 0 = some 48:=wz z "0" 48 (by decide +kernel)
def KO:Sp:=fun vs H Q _=>∃ (z:Str) (least most:Int),vs = [.str z,.int least,.int most]/\z.length <= 5000/\0 <= most/\most.natAbs.log2 < 1920/\(Str.ofString (toString most)).length <= 10/\∀ H',Same H H'->Q (uB (Ao least most (Str.ofString (toString most)).length z)) H'
theorem mC:aq ["text","least","most"] ["text","least","most"] (ae bL):=⟨rfl,rfl,rfl,by decide +kernel,rfl,by decide +kernel,by decide +kernel⟩
theorem fg (T:Txt K mg) (N:Fn K mg "read_figures" bL ["text","least","most"] f fd):FnOk P w K mg base cy (3) f fd ["text","least","most"] (KO):=by
 obtain ⟨_,_,dv⟩:=T.f_read_padded;have gK:=iS (P:=P) (w:=w) (base:=base) T dv;refine N.fu.okB mC (fun vs H Q E h=>?_) (fun bq A outer s H vs Q E hr h=>?_)
 ·obtain ⟨z,least,most,rfl,_⟩:=h
  rfl
 ·obtain ⟨z,least,most,rfl,hz,hm,hm2,hm3,q⟩:=h;have T':z.length <= sizeLine:=by rw [sizeLine_eq];omega
  generalize hn:(Str.ofString (toString most)).length = n at *;refine ⟨_,(ag (aL (ax nX (eZ bT T.b_len (by kernel_rfl) (ai (bv 0) af rfl)) (eZ bT T.b_len (by kernel_rfl) (ai (JV G5 T.b_str (by kernel_rfl) (ai (bv 2) af rfl)) af rfl)) (au _))
   (ah (aj bB))
   aw)
  (ag (aL (eF (fh (bh (gJ (bv 0) (ai b_str af rfl)) (fun _=>rfl)) (d6 (ax (hU (aH hr)) (bv 0) b_str (au _)))))
   (ah (aj bB))
   aw)
  (ah (aj (bF dv gK (hr.mono (by first | decide | omega)) (ai (bv 0) (ai (bv 1) (ai (bv 2) af rfl) rfl) rfl)))))),?_⟩
  kas_types;lcg_off;refine Bt hm2 ?_;lcg_off;refine rO (by rw [hn,sizeLine_eq];omega) ?_;rw [hn];lcg_off;refine aI (fun h1=>?_) (fun h1=>?_)
  ·rw [show Ao least most n z = none from if_neg fun h=>by omega] at q;lcg_off;exact q _ (Same.refl _)
  have hzn:z.length <= n:=by omega
  have CK:Txt.startswith z (Str.ofString "0") = true ↔ mS z.cps.toList 0 = some 48:=DX z;lcg_off;refine ⟨rfl,?_⟩;lcg_off;refine lx ?_;lcg_off;have fin:¬ (mS z.cps.toList 0 = some 48/\z ≠ Str.ofString "0")->Ao least most n z = DD least most z:=fun Ur=>by
   unfold Ao DD
   by_cases hc:iB z = true/\least <= (L2.numM z:Int)/\(L2.numM z:Int) <= most
   ·rw [if_pos hc,if_pos ⟨hzn,hc.1,Ur,hc.2⟩]
   ·rw [if_neg hc,if_neg fun h=>hc ⟨h.2.1,h.2.2.2⟩]
  cases hs:Txt.startswith z (Str.ofString "0") with
  | true =>
   lcg_off;refine fV (fun h3=>?_) (fun h3=>?_)
   ·rw [show Ao least most n z = none from if_neg fun h=>h.2.2.1 ⟨CK.mp hs,h3⟩] at q;lcg_off;exact q _ (Same.refl _)
   ·rw [fin fun h=>h.2 h3] at q;lcg_off;exact wJ (by omega) q
  | false =>
   rw [fin fun h=>by rw [CK.mpr h.1] at hs;cases hs] at q
   lcg_off;exact wJ (by omega) q
theorem wN (h1:z.length <= 5000) (h2:0 <= most) (h3:most.natAbs.log2 < 1920) (h4:(Str.ofString (toString most)).length <= 10) (q:∀ H',Same H H'->Q (uB (Ao least most (Str.ofString (toString most)).length z)) H'):KO [.str z,.int least,.int most] H Q E:=⟨z,least,most,rfl,h1,h2,h3,h4,q⟩
end
section
def DZ (n:Nat):Sp:=fun vs H Q _=>∃ ds:List Nat,vs = [.int (val ds),.int ds.length]/\1 <= ds.length/\2 * ds.length <= 2 ^ n/\ds.length <= 1000/\okF ds/\Q (.str (sg ds)) H
theorem vt {m n:Nat} (h:m <= 2 ^ n) (h2:2 <= m):2 * (m - m / 2) <= 2 ^ n:=by
 cases n with
 | zero=>simp at h;omega
 | succ n =>
  rw [Nat.pow_succ] at *;omega
theorem gq:aq ["bits","many","half","high","low"] ["bits","many"] (ae dE):=⟨rfl,rfl,rfl,by decide +kernel,rfl,by decide +kernel,by decide +kernel⟩
theorem uD (T:Txt K mg) (N:Fn K mg "signs_of" dE ["bits","many"] f fd):∀ n:Nat,FnOk P w K mg base cy n f fd ["bits","many"] (DZ n):=by
 intro n
 induction n with
 | zero=>exact ⟨fun vs H Q E ⟨ds,_,h1,h2,_⟩=>by omega,fun _ _ _ _ _ _ _ _ _ _ _ _ _ ⟨ds,_,h1,h2,_⟩=>by omega⟩
 | succ n iD =>
  have gi:=N;refine N.fu.okB gq (fun vs H Q E h=>?_) (fun bq A outer s H vs Q E hr h=>?_)
  ·obtain ⟨ds,rfl,_⟩:=h
   rfl
  ·obtain ⟨ds,rfl,h1,h2,h3,ho,q⟩:=h;refine ⟨_,(ag (aL (ax (ck (aH hr)) (bv 1) b_int (au _))
   (ah (aj (aG ak (d7 T.g_SIGNS) (bv 0) (fun _ _=>rfl))))
   aw)
  (ag (av (i:=2) gq.nd rfl (by first | exact Or.inl rfl | exact Or.inr rfl) (az bj (bv 1) b_int))
  (ag (av (i:=3) gq.nd rfl (by first | exact Or.inl rfl | exact Or.inr rfl) (az Cd (bv 0) (az ft b_int (bv 2))))
  (ag (av (i:=4) gq.nd rfl (by first | exact Or.inl rfl | exact Or.inr rfl) (az iQ (bv 0) (az Ci (bv 3) (az ft b_int (bv 2)))))
  (ah (aj (az aW (bF gi iD (hr.mono (by first | decide | omega)) (ai (bv 4) (ai (bv 2) af rfl) rfl)) (bF gi iD (hr.mono (by first | decide | omega)) (ai (bv 3) (ai (az iQ (bv 1) (bv 2)) af rfl) rfl))))))))),?_⟩
   kas_types;rw [show Str.ofString "abcdefghijklmnop" = mT from rfl];have hsz:mT.length <= sizeLine:=by rw [uf,sizeLine_eq];decide
   lcg_off;refine aI (fun h4=>?_) (fun h4=>?_)
   ·match ds,h4 with
    | [d],_ =>
     have hd:=ho d List.mem_cons_self;lcg_off;refine wR hsz (c:=97 + d) ?_ q;rw [show val [d] = (d:Int) by simp [val]];exact D7 d hd
   ·have pX:2 <= ds.length:=by omega
    have hh:(ds.length:Int) / 2 = ((ds.length / 2:Nat):Int):=by omega
    lcg_off;rw [hh];generalize hk:ds.length / 2 = k at *;have we:k <= ds.length:=by omega
    rw [AA,Ax ho we];lcg_off;refine rN (Be (ho.drop k) (by rw [List.length_drop];omega) (by omega)) ?_;rw [AA];lcg_off;rw [DK we];have hp:=vt (show ds.length <= 2 ^ n by rw [Nat.pow_succ] at h2;omega) pX;refine ⟨ds.take k,by rw [List.length_take,Nat.min_eq_left we],by rw [List.length_take];omega,by rw [List.length_take];omega,by rw [List.length_take];omega,ho.take k,?_⟩;lcg_off;refine ⟨ds.drop k,by rw [List.length_drop,show ((ds.length - k:Nat):Int) = (ds.length:Int) - (k:Int) by omega],by rw [List.length_drop];omega,by rw [List.length_drop];omega,by rw [List.length_drop];omega,ho.drop k,?_⟩;refine dW (by rw [e9,e9,List.length_take,List.length_drop,sizeLine_eq];omega) ?_;rw [Hz,List.take_append_drop];exact q
def Hr (n:Nat):Sp:=fun vs H Q _=>∃ ds:List Nat,vs = [.str (sg ds)]/\1 <= ds.length/\2 * ds.length <= 2 ^ n/\ds.length <= 1000/\okF ds/\Q (.int (val ds)) H
theorem nL:aq ["signs","half"] ["signs"] (ae er):=⟨rfl,rfl,rfl,by decide +kernel,rfl,by decide +kernel,by decide +kernel⟩
theorem xi (T:Txt K mg) (N:Fn K mg "bits_of" er ["signs"] f fd):∀ n:Nat,FnOk P w K mg base cy n f fd ["signs"] (Hr n):=by
 intro n
 induction n with
 | zero=>exact ⟨fun vs H Q E ⟨ds,_,h1,h2,_⟩=>by omega,fun _ _ _ _ _ _ _ _ _ _ _ _ _ ⟨ds,_,h1,h2,_⟩=>by omega⟩
 | succ n jz =>
  have ic:=N;refine N.fu.okB nL (fun vs H Q E h=>?_) (fun bq A outer s H vs Q E hr h=>?_)
  ·obtain ⟨ds,rfl,_⟩:=h
   rfl
  ·obtain ⟨ds,rfl,h1,h2,h3,ho,q⟩:=h;have LR:(sg ds).length <= sizeLine:=by rw [e9,sizeLine_eq];omega
   refine ⟨_,(ag (aL (ax (ck (aH hr)) (eZ bT T.b_len (by kernel_rfl) (ai (bv 0) af rfl)) b_int (au _))
   (ah (aj (Dm (d7 T.g_SIGNS) (ai (bv 0) af rfl))))
   aw)
  (ag (av (i:=1) nL.nd rfl (by first | exact Or.inl rfl | exact Or.inr rfl) (az bj (eZ bT T.b_len (by kernel_rfl) (ai (bv 0) af rfl)) b_int))
  (ah (aj (az aW (bF ic jz (hr.mono (by first | decide | omega)) (ai (cn eO (bv 0) cA (bY (bv 1))) af rfl)) (az Ci (bF ic jz (hr.mono (by first | decide | omega)) (ai (cn eO (bv 0) (bY (bv 1)) cA) af rfl)) (az ft b_int (bv 1)))))))),?_⟩
   kas_types;rw [show Str.ofString "abcdefghijklmnop" = mT from rfl];have hsz:mT.length <= sizeLine:=by rw [uf,sizeLine_eq];decide
   lcg_off;rw [e9];refine aI (fun h4=>?_) (fun h4=>?_)
   ·match ds,h4 with
    | [d],_ =>
     have hd:=ho d List.mem_cons_self;lcg_off;refine ⟨rfl,?_⟩;lcg_off;refine ⟨mT,sg [d],d,[],rfl,rfl,D5 d hd,?_⟩;rw [show val [d] = (d:Int) by simp [val]] at q;exact q
   ·have pX:2 <= ds.length:=by omega
    have hh:(ds.length:Int) / 2 = ((ds.length / 2:Nat):Int):=by omega
    lcg_off;rw [e9,hh];generalize hk:ds.length / 2 = k at *;have we:k <= ds.length:=by omega
    have hp:=vt (show ds.length <= 2 ^ n by rw [Nat.pow_succ] at h2;omega) pX;refine ir LR ?_;rw [KS we];refine ⟨ds.take k,rfl,by rw [List.length_take];omega,by rw [List.length_take];omega,by rw [List.length_take];omega,ho.take k,?_⟩;lcg_off;refine ir LR ?_;rw [D8 we];refine ⟨ds.drop k,rfl,by rw [List.length_drop];omega,by rw [List.length_drop];omega,by rw [List.length_drop];omega,ho.drop k,?_⟩;lcg_off;refine rN (Be (ho.drop k) (by rw [List.length_drop];omega) (by omega)) ?_;rw [AA];lcg_off;rw [Int.mul_comm (val (ds.drop k)),<- ji ds k we];exact q
def textOf (ds:List Nat):Str:=Str.ofString (toString ((4 * ds.length:Nat):Int)) ++ Str.ofString ":" ++ sg ds
def Sized (ds:List Nat):Prop:=okF ds/\∃ k,1 <= k/\k < 501/\ds.length = 2 * k
theorem Sized.len (h:Sized ds):1 <= ds.length/\ds.length <= 1000:=by
 obtain ⟨_,k,h1,h2,h3⟩:=h;omega
theorem Sized.figs (h:Sized ds):(∀ c ∈ (Str.ofString (toString ((4 * ds.length:Nat):Int))).cps.toList,(!(Builtin.Str.occurrences G6 ⟨#[c]⟩ 0 G6.length 1).isEmpty) = true/\c ≠ 58)/\(Str.ofString (toString ((4 * ds.length:Nat):Int))).length <= 6/\1 <= (Str.ofString (toString ((4 * ds.length:Nat):Int))).length/\mS (Str.ofString (toString ((4 * ds.length:Nat):Int))).cps.toList 0 ≠ some 48/\((4 * ds.length:Nat):Int).natAbs.log2 < 1920:=by
 obtain ⟨_,k,h1,h2,h3⟩:=h;rw [show 4 * ds.length = 8 * k by omega];exact L2.figs k h2 h1
def FY:Sp:=fun vs H Q _=>∃ (v:V) (ds:List Nat),vs = [v]/\Rep H (.tup [.int ((4 * ds.length:Nat):Int),.int (val ds)]) v/\Sized ds/\Q (.str (textOf ds)) H
theorem jG:aq ["sieve","size"] ["sieve"] (ae cE):=⟨rfl,rfl,rfl,by decide +kernel,rfl,by decide +kernel,by decide +kernel⟩
theorem pO (T:Txt K mg) (N:Fn K mg "sieve_text" cE ["sieve"] f fd):FnOk P w K mg base cy (12) f fd ["sieve"] (FY):=by
 obtain ⟨_,_,gi⟩:=T.f_signs_of;have iD:=uD (P:=P) (w:=w) (base:=base) T gi 11;refine N.fu.okB jG (fun vs H Q E h=>?_) (fun bq A outer s H vs Q E hr h=>?_)
 ·obtain ⟨v,ds,rfl,_⟩:=h
  rfl
 ·obtain ⟨v,ds,rfl,hd,hs,q⟩:=h;obtain ⟨l1,l2⟩:=hs.len;obtain ⟨f1,f2,f3,f4,f5⟩:=hs.figs;obtain ⟨a,vs,rfl,h1,h2⟩:=hd.tupE;obtain ⟨vx,_,rfl,hx,h3⟩:=h2.consE;obtain ⟨vy,_,rfl,hy,h4⟩:=h3.consE;obtain rfl:=h4.nilE;simp only [Rep] at hx hy;subst hx hy;refine ⟨_,(ag (av (i:=1) jG.nd rfl (by first | exact Or.inl rfl | exact Or.inr rfl) (aG ak (bv 0) b_int (fun _ _=>rfl)))
  (ah (aj (az aW (oY (eK (vO (bv 1)) (eK b_str oV))) (bF gi iD (hr.mono (by first | decide | omega)) (ai (aG ak (bv 0) b_int (fun _ _=>rfl)) (ai (az bj (bv 1) b_int) af rfl) rfl)))))),?_⟩
  kas_types;lcg_off;have ee:∀ x:Str,Str.empty ++ x = x:=fun x=>bp (by rw [app_list];rfl)
  have lc:(Str.ofString ":").length = 1:=by decide +kernel
  have la:∀ x y:Str,(x ++ y).length = x.length + y.length:=fun x y=>by rw [len_list,app_list,List.length_append,<- len_list,<- len_list]
  refine .inl ⟨_,rfl,f5,_,rfl,?_,?_⟩
  ·rw [ee,sizeLine_eq];omega
  lcg_off;refine ⟨by rw [ee,la,lc,sizeLine_eq];omega,?_⟩;refine uv (by rw [ee,la,lc,sizeLine_eq];omega) ?_;rw [ee];lcg_off;refine ⟨ds,by rw [show ((4 * ds.length:Nat):Int) / 4 = (ds.length:Int) by omega],l1,by omega,l2,hs.1,?_⟩;refine dW (by rw [la,lc,e9,sizeLine_eq];omega) ?_;exact q
theorem DS (ds:List Nat) (hd:Rep H (.tup [.int ((4 * ds.length:Nat):Int),.int (val ds)]) v) (hs:Sized ds) (q:Q (.str (textOf ds)) H):FY [v] H Q E:=⟨v,ds,rfl,hd,hs,q⟩
def FZ:Sp:=fun vs H Q _=>∃ ds:List Nat,vs = [.str (Str.ofString (toString ((4 * ds.length:Nat):Int)))]/\Sized ds/\∀ H',Same H H'->Q (.int ((4 * ds.length:Nat):Int)) H'
theorem Jd:(Str.ofString (toString (999992:Int))).length = 6:=by decide +kernel
theorem ki:aq ["text","size"] ["text"] (ae cW):=⟨rfl,rfl,rfl,by decide +kernel,rfl,by decide +kernel,by decide +kernel⟩
theorem rY (T:Txt K mg) (N:Fn K mg "read_size" cW ["text"] f fd):FnOk P w K mg base cy (4) f fd ["text"] (FZ):=by
 obtain ⟨_,_,bw⟩:=T.f_read_figures;have di:=fg (P:=P) (w:=w) (base:=base) T bw;refine N.fu.okB ki (fun vs H Q E h=>?_) (fun bq A outer s H vs Q E hr h=>?_)
 ·obtain ⟨ds,rfl,_⟩:=h
  rfl
 ·obtain ⟨ds,rfl,hs,q⟩:=h;obtain ⟨l1,l2⟩:=hs.len;obtain ⟨f1,f2,f3,f4,f5⟩:=hs.figs;refine ⟨_,(ag (av (i:=1) ki.nd rfl (by first | exact Or.inl rfl | exact Or.inr rfl) (bF bw di (hr.mono (by first | decide | omega)) (ai (bv 0) (ai b_int (ai (d7 T.g_GREATEST_SIZE) af rfl) rfl) rfl)))
  (ag (aL (ax iw (bv 1) bB (au _))
   (ah du)
   aw)
  (ag (aL (ax (hU (aH hr)) (az aM (bv 1) b_int) b_int (au _))
   (ah du)
   aw)
  (ah (aj (bv 1)))))),?_⟩
  kas_types;have hit:PySem.intText? (Str.ofString (toString ((4 * ds.length:Nat):Int))) = some ((4 * ds.length:Nat):Int):=W.KIN.num_reads (by omega) (by omega);have h8:4 * ds.length % 8 = 0:=by obtain ⟨_,k,h1,h2,h3⟩:=hs;omega
  generalize hz:Str.ofString (toString ((4 * ds.length:Nat):Int)) = z at *;have Ma:iB z = true:=by
   have hne:z ≠ Str.ofString "":=fun e=>by rw [e] at f3;exact absurd f3 (by decide +kernel)
   unfold iB;rw [decide_eq_true hne,Bool.true_and,List.all_eq_true];intro c hc;rw [<- CY];exact (f1 c hc).1
  have Uq:L2.numM z = 4 * ds.length:=by
   have e:=(jv Ma (by omega)).symm.trans hit;have:=Option.some.inj e;omega
  have hr:Ao 8 999992 6 z = some ((4 * ds.length:Nat):Int):=by
   unfold Ao;rw [Uq];exact if_pos ⟨f2,Ma,fun h=>f4 h.1,by omega,by omega⟩
  lcg_off;refine wN (by omega) (by decide) (by decide +kernel) (by decide +kernel) (fun H1 s1=>?_);rw [Jd,hr];simp only [uB];lcg_off;refine fV (fun h1=>absurd (by omega) h1) (fun _=>?_)
  lcg_off;exact q _ s1
theorem Bb (ds:List Nat) (hs:Sized ds) (q:∀ H',Same H H'->Q (.int ((4 * ds.length:Nat):Int)) H'):FZ [.str (Str.ofString (toString ((4 * ds.length:Nat):Int)))] H Q E:=⟨ds,rfl,hs,q⟩
theorem SO:(Str.ofString ":").length = 1:=by decide +kernel
theorem Sized.part (h:Sized ds):(Txt.partition (textOf ds) (Str.ofString ":")).1 = Str.ofString (toString ((4 * ds.length:Nat):Int))/\(Txt.partition (textOf ds) (Str.ofString ":")).2.2 = sg ds:=by
 obtain ⟨f1,_⟩:=h.figs;have hc:Str.ofString ":" = ⟨#[58]⟩:=by decide +kernel
 have hx:(textOf ds).cps.toList = (Str.ofString (toString ((4 * ds.length:Nat):Int))).cps.toList ++ 58 :: (sg ds).cps.toList:=by
  unfold textOf;rw [app_list,app_list,hc];simp
 rw [hc];obtain ⟨h1,h2⟩:=uA hx (fun hm=>(f1 58 hm).2 rfl)
 rw [h1,h2];exact ⟨bp (by simp),bp (by simp)⟩
theorem Sized.tlen (h:Sized ds):(textOf ds).length <= 2000:=by
 obtain ⟨l1,l2⟩:=h.len;obtain ⟨_,f2,_⟩:=h.figs;unfold textOf;rw [la,la,SO,e9];omega
def F0:Sp:=fun vs H Q _=>∃ ds:List Nat,vs = [.str (textOf ds)]/\Sized ds/\∀ v H',Same H H'->Rep H' (.tup [.int ((4 * ds.length:Nat):Int),.int (val ds)]) v->Q v H'
theorem eJ:aq ["text","parts","size","signs"] ["text"] (ae cj):=⟨rfl,rfl,rfl,by decide +kernel,rfl,by decide +kernel,by decide +kernel⟩
theorem pP (T:Txt K mg) (N:Fn K mg "read_sieve" cj ["text"] f fd):FnOk P w K mg base cy (12) f fd ["text"] (F0):=by
 obtain ⟨_,_,mj⟩:=T.f_read_size;have v5:=rY (P:=P) (w:=w) (base:=base) T mj;obtain ⟨_,_,ic⟩:=T.f_bits_of;have jz:=xi (P:=P) (w:=w) (base:=base) T ic 11;refine N.fu.okB eJ (fun vs H Q E h=>?_) (fun bq A outer s H vs Q E hr h=>?_)
 ·obtain ⟨ds,rfl,_⟩:=h
  rfl
 ·obtain ⟨ds,rfl,hs,q⟩:=h;obtain ⟨l1,l2⟩:=hs.len;obtain ⟨p1,p2⟩:=hs.part;have tl:=hs.tlen;have LR:(sg ds).length <= sizeLine:=by rw [e9,sizeLine_eq];omega
  refine ⟨_,(ag (av (i:=1) eJ.nd rfl (by first | exact Or.inl rfl | exact Or.inr rfl) (kI (bv 0) (ai b_str af rfl)))
  (ag (av (i:=2) eJ.nd rfl (by first | exact Or.inl rfl | exact Or.inr rfl) (bF mj v5 (hr.mono (by first | decide | omega)) (ai (aG ak (bv 1) b_int (fun _ _=>rfl)) af rfl)))
  (ag (av (i:=3) eJ.nd rfl (by first | exact Or.inl rfl | exact Or.inr rfl) (aG ak (bv 1) b_int (fun _ _=>rfl)))
  (ag (aL (ax (hU (aH hr)) (eZ bT T.b_len (by kernel_rfl) (ai (bv 3) af rfl)) (az bj (bv 2) b_int) (au _))
   (ah du)
   aw)
  (ag (aL (bU (bh (eZ (qZ rfl) T.b_all (by kernel_rfl) (ai (j7 (x:="sign") (ix:=[]) (fv:=[]) (osc:=ae cj) rfl ⟨rfl,by decide +kernel,by decide +kernel,by rfl,by decide +kernel,by decide +kernel,by decide +kernel⟩ (by rfl) (oW (bv 3)) (fun _ _ _ _=>fj) (fun _ _ _ _=>(eW qA (bv 0) (d7 T.g_SIGNS) rfl))) af rfl)) (fun _=>rfl)))
   (ah du)
   aw)
  (ah (aj (jb (ai (bv 2) (ai (bF ic jz (hr.mono (by first | decide | omega)) (ai (bv 3) af rfl)) af rfl) rfl))))))))),?_⟩
  kas_types;rw [show Str.ofString "abcdefghijklmnop" = mT from rfl];lcg_off;refine ⟨rfl,?_⟩;lcg_off;refine ⟨_,_,rfl,rfl,by decide +kernel,by rw [sizeLine_eq];omega,fun p H1 s1 hp=>?_⟩;rw [p1,p2] at hp;lcg_off;refine Bb ds hs (fun H2 s2=>?_);lcg_off;rw [e9];refine fV (fun h1=>absurd (by omega) h1) (fun _=>?_)
  lcg_off;refine SS (fun c=>.bl true) LR (fun c hc R h=>?_) (fun pl H3 yx s3 hl=>?_)
  ·lcg_off;refine ⟨_,_,rfl,rfl,?_⟩;rw [eI] at hc;obtain ⟨d,hd,rfl⟩:=List.mem_map.mp hc;rw [D6 d (hs.1 d hd)];exact h
  lcg_off;refine lz ((sg ds).cps.toList.map fun _=>true) (SqL.of (by rw [hl,List.map_map];rfl)) ?_
  rw [show ((sg ds).cps.toList.map fun _=>true).all id = true by rw [List.all_map,List.all_eq_true];intro _ _;rfl]
  lcg_off;refine ⟨ds,rfl,l1,by omega,l2,hs.1,?_⟩;lcg_off;exact q _ _ (by lcg_sub) (by keq_rows)
theorem DT (ds:List Nat) (hs:Sized ds) (q:∀ v H',Same H H'->Rep H' (.tup [.int ((4 * ds.length:Nat):Int),.int (val ds)]) v->Q v H'):F0 [.str (textOf ds)] H Q E:=⟨ds,rfl,hs,q⟩
end
section
def cx:List Str->Str
 | []=>Str.ofString ""
 | z :: zs=>z ++ Str.ofString "\n" ++ cx zs
def kX (zs:List Str):Nat:=(zs.map fun z=>z.length).sum
theorem join_rows:∀ zs:List Str,Txt.join (Str.ofString "") (zs.map fun z=>z ++ Str.ofString "\n") = cx zs:=by
 intro ds;refine (StrLaws.glued_eq_join _ _).trans ?_
 induction ds with
 | nil=>rfl
 | cons d ds ih =>
  cases ds with
  | nil =>
   show d ++ Str.ofString "\n" = d ++ Str.ofString "\n" ++ Str.ofString "";exact (vQ _).symm
  | cons e es =>
   rw [List.map_cons] at ih;rw [List.map_cons,List.map_cons];show (d ++ Str.ofString "\n" ++ Str.ofString "" ++ Str.join (Str.ofString "") ((e ++ Str.ofString "\n") :: es.map fun z=>z ++ Str.ofString "\n"):Str) = d ++ Str.ofString "\n" ++ cx (e :: es)
   rw [ih,vQ]
theorem lp:∀ zs:List Str,(cx zs).length = kX zs + zs.length
 | []=>by decide +kernel
 | z :: zs=>by
  have:=lp zs;simp only [cx,la,xp,kX,List.map_cons,List.sum_cons,List.length_cons] at this ⊢;omega
theorem sum_rows:∀ zs:List Str,(List.map (fun x=>x.length) (zs.map fun z=>z ++ Str.ofString "\n")).sum = kX zs + zs.length
 | []=>rfl
 | z :: zs=>by
  have:=sum_rows zs;simp only [List.map_cons,List.sum_cons,la,xp,kX,List.length_cons] at this ⊢;omega
theorem yj:∀ {zs:List Str} {z:Str},z ∈ zs->z.length <= kX zs
 | y :: zs,z,h=>by
  simp only [kX,List.map_cons,List.sum_cons]
  rcases List.mem_cons.mp h with e | e
  ·rw [e];omega
  ·have:=yj e;unfold kX at this;omega
def A0:Sp:=fun vs H Q _=>∃ p zs,vs = [.ref p]/\H p = some (.lst (zs.map V.str))/\zs.length <= 1000/\kX zs <= 1000000/\∀ H',Same H H'->Q (.str (cx zs)) H'
theorem mw:aq ["rows"] ["rows"] (ae br):=⟨rfl,rfl,rfl,by decide +kernel,rfl,by decide +kernel,by decide +kernel⟩
theorem iF (T:Txt K mg) (N:Fn K mg "text_of_rows" br ["rows"] f fd):FnOk P w K mg base cy (1) f fd ["rows"] (A0):=by
 refine N.fu.okB mw (fun vs H Q E h=>?_) (fun bq A outer s H vs Q E hr h=>?_)
 ·obtain ⟨p,zs,rfl,_⟩:=h
  rfl
 ·obtain ⟨p,zs,rfl,hp,hl,hs,q⟩:=h;refine ⟨_,(ah (aj (yL b_str (ai (j7 (x:="row") (ix:=[]) (fv:=[]) (osc:=ae br) rfl ⟨rfl,by decide +kernel,by decide +kernel,by rfl,by decide +kernel,by decide +kernel,by decide +kernel⟩ (by rfl) (eM (bv 0)) (fun _ _ _ _=>fj) (fun _ _ _ _=>(az (Ck (K:=K) rfl) (bv 0) b_str))) af rfl)))),?_⟩
  kas_types;lcg_off;refine ⟨rfl,?_⟩;lcg_off;refine Jf (xs:=zs.map V.str) (fun i ys H'=>H' = H/\i <= zs.length/\ys = ((zs.take i).map fun z=>z ++ Str.ofString "\n").map V.str) (by rw [sizeLine_eq,List.length_map];omega) ⟨rfl,Nat.zero_le _,rfl⟩ (fun i ys H' h=>⟨h.1 ▸ SqL.of hp,?_⟩) (fun i v ys H' hv h=>?_) (fun ys p' H' H3 h vi sp Kl=>?_)
  ·rw [h.2.2,List.length_map,List.length_map,List.length_take];have:=h.2.1;omega
  ·obtain ⟨rfl,hi,rfl⟩:=h;rw [List.getElem?_map] at hv
   cases hz:zs[i]? with
   | none=>rw [hz] at hv;cases hv
   | some z =>
    rw [hz] at hv;obtain rfl:=Option.some.inj hv;have ed:i < zs.length:=(List.getElem?_eq_some_iff.mp hz).1;have Y8:=yj (List.mem_of_getElem? hz);lcg_off;refine dW (by rw [xp,sizeLine_eq];omega) ⟨rfl,by omega,?_⟩;rw [List.take_add_one,hz,List.map_append,List.map_append]
    rfl
  ·obtain ⟨rfl,_,rfl⟩:=h;rw [List.length_map,List.take_length] at Kl;lcg_off;refine ⟨_,p',zs.map fun z=>z ++ Str.ofString "\n",rfl,rfl,SqL.of Kl,?_,?_⟩
   ·rw [le_empty,Nat.mul_zero,Nat.add_zero,sum_rows];omega
   rw [join_rows];exact q _ sp
theorem km (zs:List Str) (h1:H p = some (.lst (zs.map V.str))) (h2:zs.length <= 1000) (h3:kX zs <= 1000000) (q:∀ H',Same H H'->Q (.str (cx zs)) H'):A0 [.ref p] H Q E:=⟨p,zs,rfl,h1,h2,h3,q⟩
end
section
def Gg:Sp:=fun vs H Q _=>∃ k r:Str,vs = [.str k,.str r]/\k.length <= 20/\r.length <= 40/\Q (.str (fP k.length 2 ++ k ++ r)) H
theorem mD:aq ["key","rest"] ["key","rest"] (ae bN):=⟨rfl,rfl,rfl,by decide +kernel,rfl,by decide +kernel,by decide +kernel⟩
theorem mJ (T:Txt K mg) (N:Fn K mg "key_and_rest" bN ["key","rest"] f fd):FnOk P w K mg base cy (2) f fd ["key","rest"] (Gg):=by
 obtain ⟨_,_,vS⟩:=T.f_padded;have Dy:=zu (P:=P) (w:=w) (base:=base) T vS;refine N.fu.okB mD (fun vs H Q E h=>?_) (fun bq A outer s H vs Q E hr h=>?_)
 ·obtain ⟨k,r,rfl,_⟩:=h
  rfl
 ·obtain ⟨k,r,rfl,hk,Ap,q⟩:=h;have Km:k.length <= sizeLine:=by rw [sizeLine_eq];omega
  refine ⟨_,(ah (aj (az aW (az aW (bF vS Dy (hr.mono (by first | decide | omega)) (ai (eZ bT T.b_len (by kernel_rfl) (ai (bv 0) af rfl)) (ai (d7 T.g_KEY_FIGURES) af rfl) rfl)) (bv 0)) (bv 1)))),?_⟩;kas_types;lcg_off;refine Cb k.length 2 rfl rfl (by omega) (by omega) (by decide) (by decide +kernel) ?_;lcg_off;refine dW (by rw [bS,sizeLine_eq];omega) ?_;lcg_off;refine dW (by rw [la,bS,sizeLine_eq];omega) ?_;exact q
theorem ym {k r:Str} (h1:k.length <= 20) (h2:r.length <= 40) (q:Q (.str (fP k.length 2 ++ k ++ r)) H):Gg [.str k,.str r] H Q E:=⟨k,r,rfl,h1,h2,q⟩
theorem E2:(Str.ofString "\n").cps.toList = [10]:=by decide +kernel
theorem lZ (h:z.cps.toList.all eC = true):10 ∉ z.cps.toList:=fun hc=>absurd (List.all_eq_true.mp h 10 hc) (by decide +kernel)
theorem Cc (n k:Nat):10 ∉ (fP n k).cps.toList:=fun hc=>absurd (List.all_eq_true.mp (ET n k) 10 hc) (by decide +kernel)
theorem eU {y:Str} (h1:10 ∉ x.cps.toList) (h2:10 ∉ y.cps.toList):10 ∉ (x ++ y).cps.toList:=by
 rw [app_list];intro h
 rcases List.mem_append.mp h with h | h
 ·exact h1 h
 ·exact h2 h
theorem HK {n k:Nat} (h:n < 10 ^ k) (hk:1 <= k) (hl:k <= 600) (h1:least <= (n:Int)) (h2:(n:Int) <= most):DD least most (fP n k) = some (n:Int):=by
 unfold DD;rw [ES h hk hl];exact if_pos ⟨nV n hk,h1,h2⟩
def A3:Sp:=fun vs H Q _=>∃ k r:Str,vs = [.str (fP k.length 2 ++ k ++ r)]/\1 <= k.length/\k.length <= 20/\r.length <= 40/\∀ p H',Same H H'->H' p = some (.tup [.str k,.str r])->Q (.ref p) H'
theorem cT:aq ["text","length","behind"] ["text"] (ae aR):=⟨rfl,rfl,rfl,by decide +kernel,rfl,by decide +kernel,by decide +kernel⟩
theorem iT (T:Txt K mg) (N:Fn K mg "read_key_and_rest" aR ["text"] f fd):FnOk P w K mg base cy (3) f fd ["text"] (A3):=by
 obtain ⟨_,_,dv⟩:=T.f_read_padded;have gK:=iS (P:=P) (w:=w) (base:=base) T dv;refine N.fu.okB cT (fun vs H Q E h=>?_) (fun bq A outer s H vs Q E hr h=>?_)
 ·obtain ⟨k,r,rfl,_⟩:=h
  rfl
 ·obtain ⟨k,r,rfl,CP,vn,Ap,q⟩:=h;have Km:(fP k.length 2 ++ k ++ r).length <= sizeLine:=by rw [la,la,bS,sizeLine_eq];omega
  have we:(fP k.length 2 ++ k ++ r).length = 2 + k.length + r.length:=by rw [la,la,bS]
  refine ⟨_,(ag (av (i:=1) cT.nd rfl (by first | exact Or.inl rfl | exact Or.inr rfl) (bF dv gK (hr.mono (by first | decide | omega)) (ai (cn eO (bv 0) cA (bY (d7 T.g_KEY_FIGURES))) (ai b_int (ai (d7 T.g_LONGEST_KEY) af rfl) rfl) rfl)))
  (ag (aL (ax iw (bv 1) bB (au _))
   (ah (aj bB))
   aw)
  (ag (av (i:=2) cT.nd rfl (by first | exact Or.inl rfl | exact Or.inr rfl) (az aW (d7 T.g_KEY_FIGURES) (bv 1)))
  (ag (aL (ax sy (eZ bT T.b_len (by kernel_rfl) (ai (bv 0) af rfl)) (bv 2) (au _))
   (ah (aj bB))
   aw)
  (ah (aj (jb (ai (cn eO (bv 0) (bY (d7 T.g_KEY_FIGURES)) (bY (bv 2))) (ai (cn eO (bv 0) (bY (bv 2)) cA) af rfl) rfl)))))))),?_⟩
  kas_types;lcg_off;refine ir Km ?_;rw [ap,nF (fP k.length 2) (k ++ r) (by rw [bS];rfl)];lcg_off;refine wJ (by rw [bS];decide) (fun H1 s1=>?_);rw [HK (n:=k.length) (k:=2) (by omega) (by decide) (by decide) (by omega) (by omega)];simp only [uB];lcg_off;rw [<- ap];refine rO Km ?_;rw [we];lcg_off;refine aI (fun h=>by omega) (fun _=>?_);lcg_off;refine ir Km ?_;rw [ap,y3 (fP k.length 2) k r (by rw [bS];rfl) (by rw [bS];omega)];lcg_off;refine ir (by rw [<- ap];exact Km) ?_;rw [<- ap,jS (fP k.length 2 ++ k) r (by rw [la,bS];omega)];lcg_off;exact q _ _ (by lcg_sub) (by assumption)
theorem Bk (k r:Str) (hz:z = fP k.length 2 ++ k ++ r) (h1:1 <= k.length) (h2:k.length <= 20) (h3:r.length <= 40) (q:∀ p H',Same H H'->H' p = some (.tup [.str k,.str r])->Q (.ref p) H'):A3 [.str z] H Q E:=⟨k,r,by rw [hz],h1,h2,h3,q⟩
theorem qv:∀ zs:List Str,(cx zs).cps.toList = qU 10 (zs.map fun z=>z.cps.toList)
 | []=>rfl
 | z :: zs=>by
  show (z ++ Str.ofString "\n" ++ cx zs).cps.toList = z.cps.toList ++ 10 :: qU 10 (zs.map fun z=>z.cps.toList)
  rw [app_list,app_list,E2,qv zs,List.append_assoc]
  rfl
theorem wK {zs:List Str} (h:∀ z ∈ zs,10 ∉ z.cps.toList):Txt.split (cx zs) (Str.ofString "\n") = zs ++ [Str.ofString ""]:=by
 rw [show Str.ofString "\n" = ⟨#[10]⟩ by decide +kernel];exact wA h (qv zs)
def xU:Sp:=fun vs H Q _=>∃ zs:List Str,vs = [.str (cx zs)]/\(∀ z ∈ zs,10 ∉ z.cps.toList)/\(cx zs).length <= 100000/\∀ p H',H p = none->Same H H'->H' p = some (.lst (zs.map V.str))->Q (.ref p) H'
theorem wF:aq ["text"] ["text"] (ae eh):=⟨rfl,rfl,rfl,by decide +kernel,rfl,by decide +kernel,by decide +kernel⟩
theorem xg (T:Txt K mg) (N:Fn K mg "rows_of" eh ["text"] f fd):FnOk P w K mg base cy (1) f fd ["text"] (xU):=by
 refine N.fu.okB wF (fun vs H Q E h=>?_) (fun bq A outer s H vs Q E hr h=>?_)
 ·obtain ⟨zs,rfl,_⟩:=h
  rfl
 ·obtain ⟨zs,rfl,hok,hl,q⟩:=h;refine ⟨_,(ah (aj (cn eO (bm_split (bv 0) (ai b_str af rfl)) cA (bY (JU wk b_int))))),?_⟩;kas_types;lcg_off;refine ⟨rfl,?_⟩;lcg_off;refine Bu (by decide +kernel) (by rw [sizeLine_eq];omega) (fun p1 H1 NZ s1 GS=>?_)
  rw [wK hok,List.map_append] at GS;lcg_off;refine wQ (SqL.of GS) (fun p2 H2 yw s2 pX=>?_);rw [show ([Str.ofString ""].map V.str) = [V.str (Str.ofString "")] from rfl,Ac] at pX;lcg_off;exact q _ _ (Same.free s1 yw) (s1.trans s2) pX
theorem zc (zs:List Str) (hz:z = cx zs) (h1:∀ z ∈ zs,10 ∉ z.cps.toList) (h2:(cx zs).length <= 100000) (q:∀ p H',H p = none->Same H H'->H' p = some (.lst (zs.map V.str))->Q (.ref p) H'):xU [.str z] H Q E:=⟨zs,by rw [hz],h1,h2,q⟩
def xV (K:W.Frag):Sp:=fun vs H Q _=>∃ (p:Addr) (zs:List Str) (k:Nat) (z:Str),vs = [.ref p,.int (k:Int)]/\H p = some (.lst (zs.map V.str))/\1 <= k/\zs[k - 1]? = some z/\Q (.str z) H
theorem y8:aq ["rows","line"] ["rows","line"] (ae fK):=⟨rfl,rfl,rfl,by decide +kernel,rfl,by decide +kernel,by decide +kernel⟩
theorem qB (T:Txt K mg) (N:Fn K mg "row_at" fK ["rows","line"] f fd):FnOk P w K mg base cy (1) f fd ["rows","line"] (xV K):=by
 refine N.fu.okB y8 (fun vs H Q E h=>?_) (fun bq A outer s H vs Q E hr h=>?_)
 ·obtain ⟨p,zs,k,z,rfl,_⟩:=h
  rfl
 ·obtain ⟨p,zs,k,z,rfl,hp,hk,hz,q⟩:=h;have we:=(List.getElem?_eq_some_iff.mp hz).1;refine ⟨_,(ah (aj (JX (ax oh (bv 1) (eZ bT T.b_len (by kernel_rfl) (ai (bv 0) af rfl)) (au _)) (aG ak (bv 0) (az iQ (bv 1) b_int) (fun _ _=>rfl)) b_str))),?_⟩
  kas_types;lcg_off;refine aI (fun _=>?_) (fun h=>absurd ?_ h)
  ·lcg_off;refine dU (SqL.of hp) (v:=.str z) ?_ ?_
   ·rw [show (k:Int) - 1 = ((k - 1:Nat):Int) by omega];exact bZ (by rw [List.getElem?_map,hz];rfl)
   ·lcg_off;exact q
  ·rw [List.length_map];omega
theorem lq (zs:List Str) (k:Nat) (z:Str) (hi:i = (k:Int)) (hp:H p = some (.lst (zs.map V.str))) (hk:1 <= k) (hz:zs[k - 1]? = some z) (q:Q (.str z) H):xV K [.ref p,.int i] H Q E:=⟨p,zs,k,z,by rw [hi],hp,hk,hz,q⟩
end
section
def vH (n:Int) (c:Nat):Int:=(n * 31 + (c:Int)) % 9973
def Dc (z:Str):Int:=z.cps.toList.foldl vH 7
def KR:Sp:=fun vs H Q _=>∃ z:Str,vs = [.str z]/\Q (.int (Dc z)) H
theorem gz:aq ["text","number","sign"] ["text"] (ae dN):=⟨rfl,rfl,rfl,by decide +kernel,rfl,by decide +kernel,by decide +kernel⟩
theorem uK (T:Txt K mg) (N:Fn K mg "check_of" dN ["text"] f fd):FnOk P w K mg base cy (1) f fd ["text"] (KR):=by
 refine N.fu.okB gz (fun vs H Q E h=>?_) (fun bq A outer s H vs Q E hr h=>?_)
 ·obtain ⟨z,rfl,_⟩:=h
  rfl
 ·obtain ⟨z,rfl,q⟩:=h;refine ⟨_,(ag (av (i:=1) gz.nd rfl (by first | exact Or.inl rfl | exact Or.inr rfl) (d7 T.g_FIRST_NUMBER_runfiles))
  (ag (fi PassesOwn.never rfl (oW (bv 0)) (dD (i:=2) gz.nd rfl (by first | exact Or.inl rfl | exact Or.inr rfl))
   (ah (av (i:=1) gz.nd rfl (by first | exact Or.inl rfl | exact Or.inr rfl) (az aM (az aW (az ft (bv 1) (d7 T.g_FACTOR)) (eZ vI T.b_ord (by kernel_rfl) (ai (bv 2) af rfl))) (d7 T.g_MODULUS_runfiles)))))
  (ah (aj (bv 1))))),?_⟩
  kas_types;lcg_off;refine Mr (z:=z) (fun k σ F=>∃ (o3:Option V),σ = [some (.str z),some (.int ((z.cps.toList.take k).foldl vH 7)),o3]/\F = H)
   ⟨none,rfl,rfl⟩ (fun k ch σ F hk pM h=>?_) (fun σ F h=>?_)
  ·obtain ⟨o3,rfl,rfl⟩:=h;obtain ⟨we,Uy⟩:=List.getElem?_eq_some_iff.mp pM;have CP:(z.cps.toList.take (k + 1)).foldl vH 7 = vH ((z.cps.toList.take k).foldl vH 7) ch:=by
    rw [List.take_succ_eq_append_getElem we,Uy,List.foldl_append]
    rfl
   lcg_off;refine ⟨_,rfl,rfl,?_⟩;lcg_off;refine ⟨some (.str ⟨#[ch]⟩),?_,rfl⟩;rw [CP]
   rfl
  ·obtain ⟨o3,rfl,rfl⟩:=h;rw [List.take_length];lcg_off;exact q
theorem fold_lt:∀ (cs:List Nat) (n:Int),0 <= n/\n < 9973->0 <= cs.foldl vH n/\cs.foldl vH n < 9973
 | [],_,h=>h
 | c :: cs,n,h=>fold_lt cs _ (by unfold vH;omega)
theorem yJ (z:Str):0 <= Dc z/\Dc z < 9973:=fold_lt _ _ (by decide)
theorem eS (n:Nat):Str.ofString (toString (n:Int)) = dk n:=rfl
def jD (z:Str):Str:=Str.ofString "end " ++ dk (Dc z).toNat
theorem m9:(Str.ofString "end ").length = 4:=by decide +kernel
def KQ:Sp:=fun vs H Q _=>∃ z:Str,vs = [.str z]/\Q (.str (jD z)) H
theorem nJ:aq ["ahead","check"] ["ahead"] (ae en):=⟨rfl,rfl,rfl,by decide +kernel,rfl,by decide +kernel,by decide +kernel⟩
theorem nZ (T:Txt K mg) (N:Fn K mg "end_row" en ["ahead"] f fd):FnOk P w K mg base cy (2) f fd ["ahead"] (KQ):=by
 obtain ⟨_,_,pD⟩:=T.f_check_of;have xP:=uK (P:=P) (w:=w) (base:=base) T pD;refine N.fu.okB nJ (fun vs H Q E h=>?_) (fun bq A outer s H vs Q E hr h=>?_)
 ·obtain ⟨z,rfl,_⟩:=h
  rfl
 ·obtain ⟨z,rfl,q⟩:=h;obtain ⟨c1,c2⟩:=yJ z;obtain ⟨n,hn⟩:=Int.eq_ofNat_of_zero_le c1;have hl:=fE (n:=n) (k:=4) (by omega) (by decide);unfold jD at q;rw [hn] at q;refine ⟨_,(ag (av (i:=1) nJ.nd rfl (by first | exact Or.inl rfl | exact Or.inr rfl) (bF pD xP (hr.mono (by first | decide | omega)) (ai (bv 0) af rfl)))
  (ah (aj (oY (eK b_str (eK (vO (bv 1)) oV)))))),?_⟩
  kas_types;lcg_off;refine ⟨z,rfl,?_⟩;rw [hn];lcg_off;rw [qC];refine ⟨by rw [m9,sizeLine_eq];decide,?_⟩;lcg_off;refine .inl ⟨_,rfl,hW _ (by omega),_,rfl,by rw [eS,la,m9,sizeLine_eq];omega,?_⟩;rw [eS];refine uv (by rw [la,m9,sizeLine_eq];omega) ?_;exact q
def Az:Option Str->Str
 | none=>Str.ofString ""
 | some v=>v
def Bd:Option Str->Str
 | none=>Str.ofString " - "
 | some _=>Str.ofString " + "
def il (e:Ent):Str:=dk e.2.1.toNat ++ Bd e.2.2 ++ (fP e.1.length 2 ++ e.1 ++ Az e.2.2)
theorem Bc:∀ o:Option Str,(Bd o).length = 3
 | none=>by decide +kernel
 | some _=>show (Str.ofString " + ").length = 3 by decide +kernel
theorem xq:(Str.ofString " - ").length = 3:=by decide +kernel
theorem xo:(Str.ofString " + ").length = 3:=by decide +kernel
theorem nu {o:Option Str} (h:QH o):(Az o).length <= 40:=by
 cases o with
 | none=>exact Nat.zero_le _
 | some v=>exact h.1
def A8:Sp:=fun vs H Q _=>∃ (v:V) (e:Ent),vs = [v]/\Rep H (aC e) v/\tD e/\Q (.str (il e)) H
theorem kl:aq ["entry","stamp"] ["entry"] (ae cZ):=⟨rfl,rfl,rfl,by decide +kernel,rfl,by decide +kernel,by decide +kernel⟩
theorem r8 (T:Txt K mg) (N:Fn K mg "entry_row" cZ ["entry"] f fd):FnOk P w K mg base cy (3) f fd ["entry"] (A8):=by
 obtain ⟨_,_,gm⟩:=T.f_key_and_rest;have jg:=mJ (P:=P) (w:=w) (base:=base) T gm;refine N.fu.okB kl (fun vs H Q E h=>?_) (fun bq A outer s H vs Q E hr h=>?_)
 ·obtain ⟨v,e,rfl,_⟩:=h
  rfl
 ·obtain ⟨v,⟨k,i,o⟩,rfl,hd,⟨hk,⟨i1,i2⟩,ho⟩,q⟩:=h;obtain ⟨a,x,rfl,ha,hx⟩:=cG hd;dsimp only at *;obtain ⟨n,rfl⟩:=Int.eq_ofNat_of_zero_le (show 0 <= i by omega);have hn:=sE (n:=n) (by omega);have hv:=nu ho;have we:=hk.2.1;change Q (.str (dk n ++ Bd o ++ (fP k.length 2 ++ k ++ Az o))) H at q;refine ⟨_,(ag (av (i:=1) kl.nd rfl (by first | exact Or.inl rfl | exact Or.inr rfl) (aG ak (bv 0) b_int (fun _ _=>rfl)))
  (ag (aL (ax iw (aG ak (bv 0) b_int (fun _ _=>rfl)) bB (au _))
   (ah (aj (az aW (oY (eK (vO (bv 1)) (eK b_str oV))) (bF gm jg (hr.mono (by first | decide | omega)) (ai (aG ak (bv 0) b_int (fun _ _=>rfl)) (ai b_str af rfl) rfl)))))
   aw)
  (ah (aj (az aW (oY (eK (vO (bv 1)) (eK b_str oV))) (bF gm jg (hr.mono (by first | decide | omega)) (ai (aG ak (bv 0) b_int (fun _ _=>rfl)) (ai (aG ak (bv 0) b_int (fun _ _=>rfl)) af rfl) rfl))))))),?_⟩
  kas_types;lcg_off
  cases o with
  | none =>
   obtain rfl:x = .non:=by simpa only [oD,Rep] using hx
   lcg_off;refine .inl ⟨_,rfl,hW _ (by omega),_,rfl,by rw [qC,eS,sizeLine_eq];omega,?_⟩;rw [qC,eS];lcg_off;refine ⟨by rw [la,xq,sizeLine_eq];omega,?_⟩;refine uv (by rw [la,xq,sizeLine_eq];omega) ?_;lcg_off;refine ym (by omega) (by decide +kernel) ?_;refine dW (by rw [la,la,la,bS,xq,le_empty,sizeLine_eq];omega) ?_;exact q
  | some z =>
   obtain rfl:x = .str z:=by simpa only [oD,Rep] using hx
   lcg_off;refine .inl ⟨_,rfl,hW _ (by omega),_,rfl,by rw [qC,eS,sizeLine_eq];omega,?_⟩;rw [qC,eS];lcg_off;refine ⟨by rw [la,xo,sizeLine_eq];omega,?_⟩;refine uv (by rw [la,xo,sizeLine_eq];omega) ?_;lcg_off;refine ym (by omega) hv ?_;change z.length <= 40 at hv;refine dW (by rw [la,la,la,bS,xo,sizeLine_eq];omega) ?_;exact q
theorem CZ (e:Ent) (hd:Rep H (aC e) v) (h:tD e) (q:Q (.str (il e)) H):A8 [v] H Q E:=⟨v,e,rfl,hd,h,q⟩
theorem ur (h:tD e):(il e).length <= 80:=by
 have h1:=sE (n:=e.2.1.toNat) (by have:=h.2.1;omega);have h2:=h.1.2.1;have h3:=nu h.2.2;unfold il;rw [la,la,la,la,bS,Bc];omega
theorem zd (h:tD e):10 ∉ (il e).cps.toList:=by
 refine eU (eU (hV _ 10 (by decide +kernel)) ?_) (eU (eU (Cc _ _) (lZ h.1.2.2)) ?_)
 ·cases e.2.2 with
  | none=>decide +kernel
  | some _=>exact (show 10 ∉ (Str.ofString " + ").cps.toList by decide +kernel)
 ·have:=h.2.2
  cases hv:e.2.2 with
  | none=>decide +kernel
  | some v =>
   rw [hv] at this;exact lZ this.2
end
section
def xF:Nat->Nat->List Nat
 | 0,_=>[]
 | n + 1,b=>b % 16 :: xF n (b / 16)
theorem kG:∀ n b:Nat,(xF n b).length = n
 | 0,_=>rfl
 | n + 1,b=>congrArg (· + 1) (kG n _)
theorem yG:∀ n b:Nat,okF (xF n b)
 | 0,_=>fun _ h=>absurd h (by simp [xF])
 | n + 1,b=>fun d hd=>by
  rcases List.mem_cons.mp hd with rfl | h
  ·exact Nat.mod_lt _ (by decide)
  ·exact yG n _ d h
theorem vA:∀ n b:Nat,b < 16 ^ n->val (xF n b) = b
 | 0,b,h=>by
  have:b = 0:=by simpa using h
  rw [this]
  rfl
 | n + 1,b,h=>by
  show ((b % 16:Nat):Int) + 16 * val (xF n (b / 16)) = b;rw [vA n (b / 16) (by rw [Nat.pow_succ] at h;omega)];omega
def mR (es:List Ent):List Nat:=xF (jA es / 4).toNat (kJ es).toNat
theorem nh (h1:1 <= es.length) (h2:es.length <= 199):Sized (mR es)/\((4 * (mR es).length:Nat):Int) = jA es/\val (mR es) = kJ es/\(mR es).length <= 398:=by
 have ho:=SW.onces_le (es.map (·.1));rw [List.length_map] at ho;obtain ⟨k,hk⟩:∃ k:Nat,jA es = 8 * (k:Int)/\1 <= k/\k <= 199:=⟨max 1 (SW.onces (es.map (·.1))).length,by unfold jA wa;omega,by omega,by omega⟩;obtain ⟨m,hm,hb⟩:=kZ (sz:=wa (es.map (·.1))) (es.map (·.1)) 0;have Fu:kJ es = (m:Int):=hm;have hs:jA es = wa (es.map (·.1)):=rfl;have ed:m < 2 ^ (8 * k):=by
  refine Nat.lt_pow_two_of_testBit m fun i hi=>?_
  refine Bool.eq_false_iff.mpr fun hc=>?_
  rcases (hb i).mp hc with h | ⟨z,_,p,hp,rfl⟩
  ·simp at h
  ·unfold aX at hp;obtain ⟨f,_,rfl⟩:=List.mem_map.mp hp;rw [<- hs,hk.1] at hi;have vn:=hk.2.1;generalize T26.numM f z.cps.toList = q at hi;have h3:=Int.emod_lt_of_pos q (show (0:Int) < 8 * (k:Int) by omega);have h4:=Int.emod_nonneg q (show (8 * (k:Int)) ≠ 0 by omega);omega
 unfold mR;rw [Fu,hk.1,show (8 * (k:Int) / 4).toNat = 2 * k by omega,Int.toNat_natCast];refine ⟨⟨yG _ _,k,by omega,by omega,kG _ _⟩,by rw [kG];omega,vA _ _ ?_,by rw [kG];omega⟩;rw [show (16:Nat) = 2 ^ 4 from rfl,<- Nat.pow_mul,show 4 * (2 * k) = 8 * k by omega];exact ed
def vr (es:List Ent):Str:=Str.ofString "run " ++ dk es.length
def kn (es:List Ent):List Str:=vr es :: textOf (mR es) :: es.map il
def cB (es:List Ent):Str:=cx (kn es)
def gO (es:List Ent):Str:=cB es ++ cx [jD (cB es)]
def su (es:List Ent):Prop:=(∀ e ∈ es,tD e)/\1 <= es.length/\es.length <= 199
theorem ju:(Str.ofString "run ").length = 4:=by decide +kernel
theorem zT (h:su es):(vr es).length <= 7:=by
 have:=fE (n:=es.length) (k:=3) (by have:=h.2.2;omega) (by decide);unfold vr;rw [la,ju];omega
theorem yV (h:su es):(textOf (mR es)).length <= 420:=by
 obtain ⟨s1,s2,s3,s4⟩:=nh h.2.1 h.2.2;obtain ⟨_,f2,_⟩:=s1.figs;unfold textOf;rw [la,la,e9,show (Str.ofString ":").length = 1 by decide +kernel];omega
theorem tV:∀ {es:List Ent},(∀ e ∈ es,tD e)->kX (es.map il) <= 80 * es.length
 | [],_=>Nat.zero_le _
 | e :: es,h=>by
  have h1:=ur (h e List.mem_cons_self);have h2:=tV fun x hx=>h x (List.mem_cons_of_mem _ hx)
  simp only [kX,List.map_cons,List.sum_cons,List.length_cons] at h2 ⊢;omega
theorem kW (h:su es):kX (kn es) <= 20000/\(kn es).length = es.length + 2:=by
 have h1:=zT h;have h2:=yV h;have h3:=tV h.1;have h4:=h.2.2;refine ⟨?_,?_⟩
 ·show (vr es).length + ((textOf (mR es)).length + kX (es.map il)) <= 20000;omega
 ·show (es.map il).length + 1 + 1 = _;rw [List.length_map]
theorem lQ (h:su es):(cB es).length <= 21000:=by
 have h1:=kW h;have h2:=h.2.2;unfold cB;rw [lp];omega
theorem oN (z:Str):(jD z).length <= 8:=by
 have h:=yJ z;have:=fE (n:=(Dc z).toNat) (k:=4) (by omega) (by decide);unfold jD;rw [la,m9];omega
theorem oO (z:Str):(cx [jD z]).length <= 9:=by
 have h:=oN z;rw [lp];show (jD z).length + 0 + 1 <= 9;omega
def RunAt (H:Hp) (r:Addr) (es:List Ent):Prop:=∃ t pu xs,H r = some (.tup [.ref t,.ref pu])/\H t = some (.tup [.int (jA es),.int (kJ es)])/\H pu = some (.tup xs)/\Reps H (es.map aC) xs
def AZ (K:W.Frag):Sp:=fun vs H Q _=>∃ (r:Addr) (es:List Ent),vs = [.ref r]/\RunAt H r es/\su es/\∀ H',Same H H'->Q (.str (gO es)) H'
theorem gr:aq ["run","many","rows","ahead"] ["run"] (ae cV):=⟨rfl,rfl,rfl,by decide +kernel,rfl,by decide +kernel,by decide +kernel⟩
theorem uF (T:Txt K mg) (N:Fn K mg "run_text" cV ["run"] f fd):FnOk P w K mg base cy (13) f fd ["run"] (AZ K):=by
 obtain ⟨_,_,bV⟩:=T.f_text_of_rows;have dh:=iF (P:=P) (w:=w) (base:=base) T bV;obtain ⟨_,_,kL⟩:=T.f_sieve_text;have tm:=pO (P:=P) (w:=w) (base:=base) T kL;obtain ⟨_,_,mq⟩:=T.f_entry_row;have v8:=r8 (P:=P) (w:=w) (base:=base) T mq;obtain ⟨_,_,h9⟩:=T.f_end_row;have lT:=nZ (P:=P) (w:=w) (base:=base) T h9;refine N.fu.okB gr (fun vs H Q E h=>?_) (fun bq A outer s H vs Q E hr h=>?_)
 ·obtain ⟨r,es,rfl,_⟩:=h
  rfl
 ·obtain ⟨r,es,rfl,⟨t,pu,xs,hrr,ht,wc,cO⟩,hok,q⟩:=h;obtain ⟨s1,s2,s3,s4⟩:=nh hok.2.1 hok.2.2;have hl:=cO.length;rw [List.length_map] at hl;have hn:=fE (n:=es.length) (k:=3) (by have:=hok.2.2;omega) (by decide);have UG:=hok.2.2;refine ⟨_,(ag (av (i:=1) gr.nd rfl (by first | exact Or.inl rfl | exact Or.inr rfl) (eZ bT T.b_len (by kernel_rfl) (ai (aG ak (bv 0) b_int (fun _ _=>rfl)) af rfl)))
  (ag (av (i:=2) gr.nd rfl (by first | exact Or.inl rfl | exact Or.inr rfl) (az aW (fw (ai (oY (eK b_str (eK (vO (bv 1)) oV))) (ai (bF kL tm (hr.mono (by first | decide | omega)) (ai (aG ak (bv 0) b_int (fun _ _=>rfl)) af rfl)) af rfl) rfl)) (j7 (x:="entry") (ix:=[]) (fv:=[]) (osc:=ae cV) rfl ⟨rfl,by decide +kernel,by decide +kernel,by rfl,by decide +kernel,by decide +kernel,by decide +kernel⟩ (by rfl) (lP (aG ak (bv 0) b_int (fun _ _=>rfl))) (fun _ _ _ _=>fj) (fun _ _ _ _=>(bF mq v8 (hr.mono (by first | decide | omega)) (ai (bv 0) af rfl))))))
  (ag (av (i:=3) gr.nd rfl (by first | exact Or.inl rfl | exact Or.inr rfl) (bF bV dh (hr.mono (by first | decide | omega)) (ai (bv 2) af rfl)))
  (ah (aj (az aW (bv 3) (bF bV dh (hr.mono (by first | decide | omega)) (ai (fw (ai (bF h9 lT (hr.mono (by first | decide | omega)) (ai (bv 3) af rfl)) af rfl)) af rfl)))))))),?_⟩
  kas_types;lcg_off;rw [<- hl];rw [qC];refine ⟨by rw [ju,sizeLine_eq];decide,?_⟩;lcg_off;refine .inl ⟨_,rfl,hW _ (by omega),_,rfl,by rw [eS,la,ju,sizeLine_eq];omega,?_⟩;rw [eS];refine uv (by rw [la,ju,sizeLine_eq];omega) ?_;lcg_off;refine DS (mR es) (by rw [s2,s3];simp only [Rep,Reps];exact ⟨t,_,rfl,ht,_,_,rfl,rfl,_,_,rfl,rfl,rfl⟩) s1 ?_;lcg_off;rename_i p1 H1 NZ YN GS;obtain ⟨L,l1,l2,l3⟩:=bR cO;refine Fb (xs:=xs) (fun i us F=>F = H1/\us = ((es.take i).map il).map V.str/\i <= es.length) (by rw [<- hl,sizeLine_eq];omega) ⟨rfl,rfl,Nat.zero_le _⟩ (fun i us F h=>⟨h.1 ▸ SqT.of (YN _ _ wc),by rw [h.2.1,List.length_map,List.length_map,List.length_take];have:=h.2.2;omega⟩) (fun i v us F hv h=>?_) (fun us p2 F H2 h yw sm2 pX=>?_)
  ·obtain ⟨rfl,rfl,_⟩:=h;rw [<- l2,List.getElem?_map] at hv;obtain ⟨te,qK,rfl⟩:=Option.map_eq_some_iff.mp hv;have Aq:es[i]? = some te.1:=by rw [<- l1,List.getElem?_map,qK];rfl
   obtain ⟨kQ,vp⟩:=List.getElem?_eq_some_iff.mp Aq;lcg_off;refine CZ te.1 ((l3 te (List.mem_of_getElem? qK)).same YN) (hok.1 _ (List.mem_of_getElem? Aq)) ?_;lcg_off;exact ⟨rfl,by rw [List.take_succ_eq_append_getElem kQ,vp,List.map_append,List.map_append];rfl,kQ⟩
  obtain ⟨rfl,rfl,_⟩:=h;rw [<- hl,List.take_length] at pX;lcg_off;refine yd (sm2 _ _ GS) pX (by rw [List.length_map,List.length_map,sizeLine_eq];show 2 + es.length <= _;omega) (fun p3 H3 hp3 sm3 Kl=>?_)
  have hs:=kW hok;lcg_off;refine km (kn es) Kl (by omega) (by omega) (fun H4 sm4=>?_)
  lcg_off;refine ⟨_,rfl,?_⟩;lcg_off;rename_i p5 H5 hp5 sm5 Uw;refine km [jD (cB es)] Uw (show 1 <= 1000 by decide) (by have:=oN (cB es);show (jD (cB es)).length + 0 <= _;omega) (fun H6 sm6=>?_);refine dW (by have h1:=lQ hok;have h2:=oO (cB es);rw [sizeLine_eq];change (cB es).length + (cx [jD (cB es)]).length <= _;omega) ?_;exact q _ (by lcg_sub)
theorem uo (es:List Ent) (h:RunAt H r es) (h2:su es) (q:∀ H',Same H H'->Q (.str (gO es)) H'):AZ K [.ref r] H Q E:=⟨r,es,rfl,h,h2,q⟩
end
section
theorem starts_app (x y:Str):Txt.startswith (x ++ y) x = true:=(jQ _ _).mpr ⟨y.cps.toList,by rw [app_list]⟩
def D1:Sp:=fun vs H Q _=>∃ n:Nat,vs = [.str (Str.ofString "run " ++ dk n)]/\1 <= n/\n <= 199/\∀ H',Same H H'->Q (.int (n:Int)) H'
theorem ij:aq ["row","many"] ["row"] (ae cX):=⟨rfl,rfl,rfl,by decide +kernel,rfl,by decide +kernel,by decide +kernel⟩
theorem rZ (T:Txt K mg) (N:Fn K mg "read_head" cX ["row"] f fd):FnOk P w K mg base cy (4) f fd ["row"] (D1):=by
 obtain ⟨_,_,bw⟩:=T.f_read_figures;have di:=fg (P:=P) (w:=w) (base:=base) T bw;refine N.fu.okB ij (fun vs H Q E h=>?_) (fun bq A outer s H vs Q E hr h=>?_)
 ·obtain ⟨n,rfl,_⟩:=h
  rfl
 ·obtain ⟨n,rfl,N1,JA,q⟩:=h;have hn:=fE (n:=n) (k:=3) (by omega) (by decide);refine ⟨_,(ag (av (i:=1) ij.nd rfl (by first | exact Or.inl rfl | exact Or.inr rfl) bB)
  (ag (aL (bh (gJ (bv 0) (ai b_str af rfl)) (fun _=>rfl))
   (ah (av (i:=1) ij.nd rfl (by first | exact Or.inl rfl | exact Or.inr rfl) (bF bw di (hr.mono (by first | decide | omega)) (ai (cn eO (bv 0) (bY b_int) cA) (ai b_int (ai (d7 T.g_MOST_ENTRIES) af rfl) rfl) rfl))))
   aw)
  (ag (aL (ax iw (bv 1) bB (au _))
   (ah du)
   aw)
  (ah (aj (bv 1)))))),?_⟩
  kas_types;lcg_off;refine ⟨rfl,?_⟩;lcg_off;refine lx ?_;rw [starts_app];lcg_off;refine ir (by rw [la,ju,sizeLine_eq];omega) ?_;rw [jS (Str.ofString "run ") (dk n) (by rw [ju];rfl)];lcg_off;refine wN (by omega) (by decide) (by decide +kernel) (by decide +kernel) (fun H1 s1=>?_);rw [show Ao 1 9999 (Str.ofString (toString (9999:Int))).length (dk n) = some (n:Int) from Bo (n:=n) (least:=1) (most:=9999) (by omega) (by omega) (by decide) (by omega)];simp only [uB];lcg_off;exact q _ s1
def KP:Sp:=fun vs H Q _=>∃ ds:List Nat,vs = [.str (textOf ds)]/\Sized ds/\∀ v H',Same H H'->Rep H' (.tup [.int ((4 * ds.length:Nat):Int),.int (val ds)]) v->Q v H'
theorem FG {X:Cx} {body:List Stmt} {h₀:ExceptHandler} {hs:List ExceptHandler} {pos:Pos} {tb:TS} (hxe:∀ e s,X.xe e s->False) (hb:Aw X body tb):BS X (.Try body (h₀ :: hs) [] [] pos) tb:=⟨by
 intro pins s σ H D I h;refine wpAny_Try_except (wpAny_mono (hb.h pins s σ H D I h) (fun f s1 q=>?_) fun e s1 q=>(hxe _ _ q).elim)
 cases f with
 | next=>exact wpAny_execs_nil q
 | brk=>exact q
 | cont=>exact q
 | ret u=>exact q⟩
theorem kj:aq ["row"] ["row"] (ae bo):=⟨rfl,rfl,rfl,by decide +kernel,rfl,by decide +kernel,by decide +kernel⟩
theorem ku (T:Txt K mg) (N:Fn K mg "read_sieve_row" bo ["row"] f fd):FnOk P w K mg base cy (13) f fd ["row"] (KP):=by
 obtain ⟨_,_,kM⟩:=T.f_read_sieve;have tq:=pP (P:=P) (w:=w) (base:=base) T kM;refine N.fu.okB kj (fun vs H Q E h=>?_) (fun bq A outer s H vs Q E hr h=>?_)
 ·obtain ⟨ds,rfl,_⟩:=h
  rfl
 ·obtain ⟨ds,rfl,hs,q⟩:=h;refine ⟨_,(ah (FG (fun _ _ h=>h) (ah (aj (bF kM tq (hr.mono (by first | decide | omega)) (ai (bv 0) af rfl)))))),?_⟩
  kas_types;lcg_off;exact DT ds hs q
def HA:Option Str->Str
 | none=>Str.ofString "- "
 | some _=>Str.ofString "+ "
def nP (e:Ent):Str:=fP e.1.length 2 ++ e.1 ++ Az e.2.2
theorem rK:∀ o:Option Str,(HA o).length = 2
 | none=>by decide +kernel
 | some _=>show (Str.ofString "+ ").length = 2 by decide +kernel
theorem Hy:∀ o:Option Str,(Bd o).cps.toList = 32 :: (HA o).cps.toList
 | none=>by decide +kernel
 | some _=>show (Str.ofString " + ").cps.toList = 32 :: (Str.ofString "+ ").cps.toList by decide +kernel
theorem Ca (e:Ent):(Txt.partition (il e) (Str.ofString " ")).1 = dk e.2.1.toNat/\(Txt.partition (il e) (Str.ofString " ")).2.2 = HA e.2.2 ++ nP e:=by
 have hc:Str.ofString " " = ⟨#[32]⟩:=by decide +kernel
 have hx:(il e).cps.toList = (dk e.2.1.toNat).cps.toList ++ 32 :: (HA e.2.2 ++ nP e).cps.toList:=by
  show (dk e.2.1.toNat ++ Bd e.2.2 ++ nP e).cps.toList = _;rw [app_list,app_list,app_list,Hy];simp
 rw [hc];obtain ⟨h1,h2⟩:=uA hx (hV _ 32 (by decide +kernel));rw [h1,h2];exact ⟨bp (by simp),bp (by simp)⟩
def A5:Sp:=fun vs H Q _=>∃ e:Ent,vs = [.str (il e)]/\tD e/\∀ v H',Same H H'->Rep H' (aC e) v->Q v H'
theorem bH:aq ["row","parts","stamp","sign","pair","entry"] ["row"] (ae cF):=⟨rfl,rfl,rfl,by decide +kernel,rfl,by decide +kernel,by decide +kernel⟩
theorem pQ (T:Txt K mg) (N:Fn K mg "read_entry" cF ["row"] f fd):FnOk P w K mg base cy (5) f fd ["row"] (A5):=by
 obtain ⟨_,_,bw⟩:=T.f_read_figures;have di:=fg (P:=P) (w:=w) (base:=base) T bw;obtain ⟨_,_,fz⟩:=T.f_read_key_and_rest;have jE:=iT (P:=P) (w:=w) (base:=base) T fz;obtain ⟨_,_,gn⟩:=T.f_is_entry;have kc:=lY (P:=P) (w:=w) (base:=base) T gn;refine N.fu.okB bH (fun vs H Q E h=>?_) (fun bq A outer s H vs Q E hr h=>?_)
 ·obtain ⟨e,rfl,_⟩:=h
  rfl
 ·obtain ⟨e,rfl,hok,q⟩:=h;obtain ⟨p1,p2⟩:=Ca e;have tl:=ur hok;have hn:=sE (n:=e.2.1.toNat) (by have:=hok.2.1;omega);have hv:=nu hok.2.2;have hk:=hok.1;have hrl:(HA e.2.2 ++ nP e).length <= 70:=by
   unfold nP;rw [la,la,la,rK,bS];have:=hk.2.1;omega
  refine ⟨_,(ag (av (i:=1) bH.nd rfl (by first | exact Or.inl rfl | exact Or.inr rfl) (kI (bv 0) (ai b_str af rfl)))
  (ag (av (i:=2) bH.nd rfl (by first | exact Or.inl rfl | exact Or.inr rfl) (bF bw di (hr.mono (by first | decide | omega)) (ai (aG ak (bv 1) b_int (fun _ _=>rfl)) (ai b_int (ai (d7 T.g_GREATEST_STAMP) af rfl) rfl) rfl)))
  (ag (av (i:=3) bH.nd rfl (by first | exact Or.inl rfl | exact Or.inr rfl) (cn eO (aG ak (bv 1) b_int (fun _ _=>rfl)) cA (bY b_int)))
  (ag (av (i:=4) bH.nd rfl (by first | exact Or.inl rfl | exact Or.inr rfl) (bF fz jE (hr.mono (by first | decide | omega)) (ai (cn eO (aG ak (bv 1) b_int (fun _ _=>rfl)) (bY b_int) cA) af rfl)))
  (ag (aL (eF (dt (ax iw (bv 2) bB (au _)) (dn (ax iw (bv 4) bB (au _)))))
   (ah (aj bB))
   aw)
  (ag (av (i:=5) bH.nd rfl (by first | exact Or.inl rfl | exact Or.inr rfl) bB)
  (ag (aL (ax (ck (aH hr)) (bv 3) b_str (au _))
   (ah (av (i:=5) bH.nd rfl (by first | exact Or.inl rfl | exact Or.inr rfl) (jb (ai (aG ak (bv 4) b_int (fun _ _=>rfl)) (ai (bv 2) (ai (aG ak (bv 4) b_int (fun _ _=>rfl)) af rfl) rfl) rfl))))
   aw)
  (ag (aL (eF (fh (ax (ck (aH hr)) (bv 3) b_str (au _)) (d6 (ax (ck (aH hr)) (aG ak (bv 4) b_int (fun _ _=>rfl)) b_str (au _)))))
   (ah (av (i:=5) bH.nd rfl (by first | exact Or.inl rfl | exact Or.inr rfl) (jb (ai (aG ak (bv 4) b_int (fun _ _=>rfl)) (ai (bv 2) (ai bB af rfl) rfl) rfl))))
   aw)
  (ah (aj (JX (bh (bF gn kc (hr.mono (by first | decide | omega)) (ai (bv 5) af rfl)) (fun _=>rfl)) (bv 5) bB))))))))))),?_⟩
  kas_types;lcg_off;refine ⟨rfl,?_⟩;lcg_off;refine ⟨_,_,rfl,rfl,by decide +kernel,by rw [sizeLine_eq];omega,fun p H1 s1 hp=>?_⟩;rw [p1,p2] at hp;lcg_off;refine wN (by omega) (by decide) (by decide +kernel) (by decide +kernel) (fun H2 s2=>?_);rw [show Ao 1 999999999 (Str.ofString (toString (999999999:Int))).length (dk e.2.1.toNat) = some (e.2.1.toNat:Int) from Bo (n:=e.2.1.toNat) (least:=1) (most:=999999999) (by have:=hok.2.1;omega) (by have:=hok.2.1;omega) (by decide) (by omega),show ((e.2.1.toNat:Nat):Int) = e.2.1 from by have:=hok.2.1;omega];simp only [uB];lcg_off;refine ir (by rw [sizeLine_eq];omega) ?_;rw [nF (HA e.2.2) (nP e) (by rw [rK];rfl)];lcg_off;refine ir (by rw [sizeLine_eq];omega) ?_;rw [jS (HA e.2.2) (nP e) (by rw [rK];rfl)];lcg_off;refine Bk e.1 (Az e.2.2) rfl hk.1 hk.2.1 hv (fun p3 H3 s3 hp3=>?_);obtain ⟨k,i,o⟩:=e;dsimp only at *;lcg_off
  cases o with
  | none =>
   refine aI (fun h=>absurd h (show Str.ofString "- " ≠ Str.ofString "+ " by decide +kernel)) (fun _=>?_)
   lcg_off;refine aI (fun _=>?_) (fun h=>absurd rfl h);lcg_off;refine aI (fun _=>?_) (fun h=>absurd rfl h);lcg_off;rename_i p4 H4 s4 Um;have Mb:Rep H4 (aC (k,i,none)) (.ref p4):=sI (e:=(k,i,none)) Um Rep.non';refine dX (aC (k,i,none)) Mb (wC hok) (fun H5 s5=>?_);rw [oM hok];lcg_off;exact q _ _ (by lcg_sub) (Mb.same s5)
  | some z =>
   refine aI (fun _=>?_) (fun h=>absurd rfl h);lcg_off;rename_i p4 H4 s4 Um;refine aI (fun h=>absurd h (show Str.ofString "+ " ≠ Str.ofString "- " by decide +kernel)) (fun _=>?_)
   lcg_off;have Mb:Rep H4 (aC (k,i,some z)) (.ref p4):=sI (e:=(k,i,some z)) Um Rep.str';refine dX (aC (k,i,some z)) Mb (wC hok) (fun H5 s5=>?_);rw [oM hok];lcg_off;exact q _ _ (by lcg_sub) (Mb.same s5)
theorem Br (e:Ent) (h:tD e) (q:∀ v H',Same H H'->Rep H' (aC e) v->Q v H'):A5 [.str (il e)] H Q E:=⟨e,rfl,h,q⟩
end
section
def NB (H:Hp) (p l:Addr) (es:List Ent) (i:Nat) (σ:St) (F:Hp):Prop:=∃ (L:List (Ent × V)) (o4 o5:Option V),σ = [some (.ref p),some (.int es.length),some (.ref l),o4,o5]/\Same H F/\F l = some (.lst (L.map (·.2)))/\L.map (·.1) = es.take i/\(∀ t ∈ L,Rep F (aC t.1) t.2)
def xW (K:W.Frag):Sp:=fun vs H Q _=>∃ (p:Addr) (zs:List Str) (es:List Ent),vs = [.ref p,.int (es.length:Int)]/\H p = some (.lst (zs.map V.str))/\(∀ i e,es[i]? = some e->zs[i + 2]? = some (il e))/\su es/\dR es/\∀ t xs H',Same H H'->H' t = some (.tup xs)->Reps H' (es.map aC) xs->Q (.ref t) H'
theorem dA:aq ["rows","many","entries","line","entry"] ["rows","many"] (ae bM):=⟨rfl,rfl,rfl,by decide +kernel,rfl,by decide +kernel,by decide +kernel⟩
theorem mI (T:Txt K mg) (N:Fn K mg "read_entries" bM ["rows","many"] f fd):FnOk P w K mg base cy (6) f fd ["rows","many"] (xW K):=by
 obtain ⟨_,_,kN⟩:=T.f_read_entry;have tu:=pQ (P:=P) (w:=w) (base:=base) T kN;obtain ⟨_,_,hZ⟩:=T.f_row_at;have kO:=qB (P:=P) (w:=w) (base:=base) T hZ;obtain ⟨_,_,dw⟩:=T.f_comes_ahead;have gL:=iU (P:=P) (w:=w) (base:=base) T dw;refine N.fu.okB dA (fun vs H Q E h=>?_) (fun bq A outer s H vs Q E hr h=>?_)
 ·obtain ⟨p,zs,es,rfl,_⟩:=h
  rfl
 ·obtain ⟨p,zs,es,rfl,hp,hz,hok,hri,q⟩:=h;have UG:=hok.2.2;refine ⟨_,(ag (av (i:=2) dA.nd rfl (by first | exact Or.inl rfl | exact Or.inr rfl) (fw af))
  (ag (fi PassesOwn.never rfl (Nw T.b_range (ai (d7 T.g_FIRST_ENTRY_LINE) (ai (az aW (d7 T.g_FIRST_ENTRY_LINE) (bv 1)) af rfl) rfl)) (dD (i:=3) dA.nd rfl (by first | exact Or.inl rfl | exact Or.inr rfl))
   (ag (av (i:=4) dA.nd rfl (by first | exact Or.inl rfl | exact Or.inr rfl) (bF kN tu (hr.mono (by first | decide | omega)) (ai (bF hZ kO (hr.mono (by first | decide | omega)) (ai (bv 0) (ai (bv 3) af rfl) rfl)) af rfl)))
  (ag (aL (ax iw (bv 4) bB (au _))
   (ah du)
   aw)
  (ag (aL (eF (fh (ax nX (eZ bT T.b_len (by kernel_rfl) (ai (bv 2) af rfl)) b_int (au _)) (d6 (bU (bh (bF dw gL (hr.mono (by first | decide | omega)) (ai (aG ak (bv 2) (JU wk b_int) (fun _ _=>rfl)) (ai (bv 4) af rfl) rfl)) (fun _=>rfl))))))
   (ah du)
   aw)
  (ah (ni (lO (bv 2) (ai (bv 4) af rfl))))))))
  (ah (aj (JV yK T.b_tuple (by kernel_rfl) (ai (bv 2) af rfl)))))),?_⟩
  kas_types;lcg_off;rename_i l Hl Fq sl hl;refine forR (NB H p l es)
   ⟨[],_,none,rfl,sl,hl,rfl,fun t ht=>(nomatch ht)⟩ (fun i σ F hi h=>?_) (fun σ F h=>?_)
  ·obtain ⟨L,o4,o5,rfl,s1,hF,hL,hR⟩:=h;have vp:i < es.length:=by omega
   obtain ⟨e,he⟩:∃ e,es[i]? = some e:=⟨_,List.getElem?_eq_getElem vp⟩;have Zm:=(List.getElem?_eq_some_iff.mp he).2;have UR:L.length = i:=by rw [<- List.length_map (f:=(·.1)),hL,List.length_take];omega
   lcg_off;refine lq zs (i + 3) (il e) (by omega) (s1 _ _ hp) (by omega) (hz i e he) ?_;lcg_off;refine Br e (hok.1 _ (List.mem_of_getElem? he)) (fun v F2 s2 hv=>?_);obtain ⟨c,x,rfl,hc,hx⟩:=cG hv;lcg_off;have Kr:=s2 _ _ hF;have done:∀ F3,Same F2 F3->NB H p l es (i + 1) [some (.ref p),some (.int es.length),some (.ref l),some (.int (3 + (i:Int))),some (.ref c)] (upd F3 l (.lst (L.map (·.2) ++ [.ref c]))):=fun F3 s3=>by
    have tp:Aj F3 (upd F3 l (.lst (L.map (·.2) ++ [.ref c]))):=AD (s3 _ _ Kr);refine ⟨L ++ [(e,.ref c)],_,_,rfl,gS (Same.tr s3 (Same.tr s2 s1)) Fq,?_,?_,?_⟩
    ·rw [aE,List.map_append]
     rfl
    ·rw [List.map_append,hL,List.take_succ_eq_append_getElem vp,Zm]
     rfl
    ·intro t ht
     rcases List.mem_append.mp ht with h | h
     ·exact Rep.tups tp (((hR t h).same s2).same s3)
     ·rw [List.mem_singleton.mp h];exact Rep.tups tp (hv.same s3)
   rcases List.eq_nil_or_concat L with rfl | ⟨L0,t,rfl⟩
   ·refine aI (fun h=>absurd h (by decide)) (fun _=>?_)
    lcg_off;refine jq Kr (by rw [List.length_map,UR,sizeLine_eq];omega) ?_;lcg_off;exact done F2 (Same.refl _)
   ·rw [List.concat_eq_append] at *;refine aI (fun _=>?_) (fun h=>absurd (by rw [List.length_map,List.length_append,List.length_singleton];omega) h)
    have hah:eT (gT t.1) (gT e) = true:=by
     have h5:=hri;unfold dR at h5;rw [<- List.take_append_drop i es,List.pairwise_append] at h5;exact h5.2.2 t.1 (by rw [<- hL,List.map_append];exact List.mem_append_right _ List.mem_cons_self) e (by rw [List.drop_eq_getElem_cons vp,Zm];exact List.mem_cons_self)
    lcg_off;refine dU (SqL.of Kr) (v:=t.2) (by rw [List.map_append];exact Dq _ _) ?_;lcg_off;refine ro t.1 e ((hR t (List.mem_append_right _ List.mem_cons_self)).same s2) hv (fun F3 s3=>?_);rw [hah];lcg_off;refine jq (s3 _ _ Kr) (by rw [List.length_map,UR,sizeLine_eq];omega) ?_;lcg_off;exact done F3 s3
  ·obtain ⟨L,o4,o5,rfl,s1,hF,hL,hR⟩:=h;rw [show (3 + (es.length:Int) - 3).toNat = es.length by omega,List.take_length] at hL;have UR:L.length = es.length:=by rw [<- List.length_map (f:=(·.1)),hL]
   lcg_off;refine qz (SqL.of hF) (fun t G ht sG hG=>?_);exact q t _ G (Same.tr sG s1) hG (by rw [<- hL];exact jY fun t ht=>(hR t ht).same sG)
theorem ze (zs:List Str) (es:List Ent) (hi:i = (es.length:Int)) (hp:H p = some (.lst (zs.map V.str))) (hz:∀ i e,es[i]? = some e->zs[i + 2]? = some (il e)) (h1:su es) (h2:dR es) (q:∀ t xs H',Same H H'->H' t = some (.tup xs)->Reps H' (es.map aC) xs->Q (.ref t) H'):xW K [.ref p,.int i] H Q E:=⟨p,zs,es,by rw [hi],hp,hz,h1,h2,q⟩
theorem qw:∀ xs ys:List Str,cx (xs ++ ys) = cx xs ++ cx ys
 | [],ys=>bp (by rw [app_list];rfl)
 | x :: xs,ys=>by
  show x ++ Str.ofString "\n" ++ cx (xs ++ ys) = x ++ Str.ofString "\n" ++ cx xs ++ cx ys;rw [qw xs ys,ap,ap,ap]
def o9 (es:List Ent):List Str:=kn es ++ [jD (cB es)]
theorem qf (es:List Ent):gO es = cx (o9 es):=(qw _ _).symm
def A' (K:W.Frag):Sp:=fun vs H Q _=>∃ (p:Addr) (es:List Ent),vs = [.str (gO es),.ref p,.int (3 + (es.length:Int))]/\H p = some (.lst ((o9 es).map V.str))/\su es/\∀ H',Same H H'->Q .non H'
theorem ik:aq ["text","rows","line","ahead","whole"] ["text","rows","line"] (ae da):=⟨rfl,rfl,rfl,by decide +kernel,rfl,by decide +kernel,by decide +kernel⟩
theorem sh (T:Txt K mg) (N:Fn K mg "check_end" da ["text","rows","line"] f fd):FnOk P w K mg base cy (3) f fd ["text","rows","line"] (A' K):=by
 obtain ⟨_,_,bV⟩:=T.f_text_of_rows;have dh:=iF (P:=P) (w:=w) (base:=base) T bV;obtain ⟨_,_,h9⟩:=T.f_end_row;have lT:=nZ (P:=P) (w:=w) (base:=base) T h9;refine N.fu.okB ik (fun vs H Q E h=>?_) (fun bq A outer s H vs Q E hr h=>?_)
 ·obtain ⟨p,es,rfl,_⟩:=h
  rfl
 ·obtain ⟨p,es,rfl,hp,hok,q⟩:=h;have hs:=kW hok;have UG:=hok.2.2;have hal:=lQ hok;have her:=oO (cB es);refine ⟨_,(ag (av (i:=3) ik.nd rfl (by first | exact Or.inl rfl | exact Or.inr rfl) (bF bV dh (hr.mono (by first | decide | omega)) (ai (cn eO (bv 1) cA (bY (az iQ (bv 2) b_int))) af rfl)))
  (ag (av (i:=4) ik.nd rfl (by first | exact Or.inl rfl | exact Or.inr rfl) (az aW (bv 3) (bF bV dh (hr.mono (by first | decide | omega)) (ai (fw (ai (bF h9 lT (hr.mono (by first | decide | omega)) (ai (bv 3) af rfl)) af rfl)) af rfl))))
  (ag (aL (bU (bh (gJ (bv 0) (ai (bv 4) af rfl)) (fun _=>rfl)))
   (ah du)
   aw)
  (ah (aL (ax (hU (aH hr)) (bv 0) (bv 4) (au _))
   (ah du)
   aw))))),?_⟩
  kas_types;lcg_off;refine wQ (SqL.of hp) (fun p2 H2 yw s2 pX=>?_);rw [show (3 + (es.length:Int) - 1) = (((kn es).map V.str).length:Int) by rw [List.length_map,hs.2];omega,FC _ (by unfold o9;rw [List.length_map,List.length_map,List.length_append];omega)] at pX;unfold o9 at pX;rw [List.map_append,List.take_left] at pX;lcg_off;refine km (kn es) pX (by omega) (by omega) (fun H3 s3=>?_);lcg_off;refine ⟨_,rfl,?_⟩;lcg_off;rename_i p5 H5 hp5 s5 Uw;refine km [jD (cB es)] Uw (show 1 <= 1000 by decide) (by have:=oN (cB es);show (jD (cB es)).length + 0 <= _;omega) (fun H6 s6=>?_);refine dW (by rw [sizeLine_eq];change (cB es).length + (cx [jD (cB es)]).length <= _;omega) ?_;have CK:Txt.startswith (gO es) (cx (kn es) ++ cx [jD (cB es)]) = true:=(jQ _ _).mpr (List.prefix_refl _);lcg_off;refine ⟨rfl,?_⟩;lcg_off;refine lx ?_;rw [CK];lcg_off;refine fV (fun h=>absurd rfl h) (fun _=>?_);lcg_off;exact q _ (by lcg_sub)
theorem De (es:List Ent) (hi:i = 3 + (es.length:Int)) (hp:H p = some (.lst ((o9 es).map V.str))) (h1:su es) (q:∀ H',Same H H'->Q .non H'):A' K [.str (gO es),.ref p,.int i] H Q E:=⟨p,es,by rw [hi],hp,h1,q⟩
theorem Ds (h:su es):∀ z ∈ o9 es,10 ∉ z.cps.toList:=by
 intro z hz;unfold o9 kn at hz;simp only [List.cons_append,List.mem_cons,List.mem_append,List.mem_map,List.not_mem_nil,or_false] at hz
 rcases hz with rfl | rfl | ⟨e,he,rfl⟩ | rfl
 ·exact eU (by decide +kernel) (hV _ 10 (by decide +kernel))
 ·obtain ⟨s1,_⟩:=nh h.2.1 h.2.2;unfold textOf;refine eU (eU (hV (4 * (mR es).length) 10 (by decide +kernel)) (by decide +kernel)) ?_;rw [eI];intro hm;obtain ⟨d,_,hd⟩:=List.mem_map.mp hm;omega
 ·exact zd (h.1 e he)
 ·exact eU (by decide +kernel) (hV _ 10 (by decide +kernel))
theorem Cr {n:Int} (h:H p = some (.tup [.int m,.int n])) (h':H p' = some (.tup [.int m,.int n])) (q:Q (.bl false) H):rR (.ref p) (.ref p') H Q:=by
 refine ⟨.tup [.int m,.int n],.tup [.int m,.int n],by simp only [Rep,Reps];exact ⟨p,_,rfl,h,_,_,rfl,rfl,_,_,rfl,rfl,rfl⟩,by simp only [Rep,Reps];exact ⟨p',_,rfl,h',_,_,rfl,rfl,_,_,rfl,rfl,rfl⟩,by simp [D.dep,D.deps],by simp [D.dep,D.deps],?_⟩;rw [gU];exact q
def A4 (K:W.Frag):Sp:=fun vs H Q _=>∃ es:List Ent,vs = [.str (gO es)]/\su es/\dR es/\cf H/\∀ r H1,SameB bG H H1->cf H1->RunAt H1 r es->Q (.ref r) H1
theorem eN:aq ["text","rows","many","sieve","entries"] ["text"] (ae dG):=⟨rfl,rfl,rfl,by decide +kernel,rfl,by decide +kernel,by decide +kernel⟩
theorem uG (T:Txt K mg) (j6:∀ p ∈ tabs,base.BuiltinsAt mg p) (kIn:K.In base) (N:Fn K mg "read_run" dG ["text"] f fd):FnOk P w K mg base cy (14) f fd ["text"] (A4 K):=by
 obtain ⟨_,_,rA⟩:=T.f_rows_of;have Al:=xg (P:=P) (w:=w) (base:=base) T rA;obtain ⟨_,_,mn⟩:=T.f_read_head;have v7:=rZ (P:=P) (w:=w) (base:=base) T mn;obtain ⟨_,_,h7⟩:=T.f_read_sieve_row;have lS:=ku (P:=P) (w:=w) (base:=base) T h7;obtain ⟨_,_,jc⟩:=T.f_read_entries;have pG:=mI (P:=P) (w:=w) (base:=base) T jc;obtain ⟨_,_,mr⟩:=T.f_check_end;have v9:=sh (P:=P) (w:=w) (base:=base) T mr;obtain ⟨_,_,hZ⟩:=T.f_row_at;have kO:=qB (P:=P) (w:=w) (base:=base) T hZ;obtain ⟨_,_,aQ⟩:=T.f_sieve_of_entries;have bW:=dm (P:=P) (w:=w) (base:=base) T j6 kIn aQ;refine N.fu.okB eN (fun vs H Q E h=>?_) (fun bq A outer s H vs Q E hr h=>?_)
 ·obtain ⟨es,rfl,_⟩:=h
  rfl
 ·obtain ⟨es,rfl,hok,hri,tok,q⟩:=h;have hal:=lQ hok;have her:=oO (cB es);obtain ⟨d1,d2,d3,d4⟩:=nh hok.2.1 hok.2.2;refine ⟨_,(ag (av (i:=1) eN.nd rfl (by first | exact Or.inl rfl | exact Or.inr rfl) (bF rA Al (hr.mono (by first | decide | omega)) (ai (bv 0) af rfl)))
  (ag (av (i:=2) eN.nd rfl (by first | exact Or.inl rfl | exact Or.inr rfl) (bF mn v7 (hr.mono (by first | decide | omega)) (ai (bF hZ kO (hr.mono (by first | decide | omega)) (ai (bv 1) (ai (d7 T.g_HEAD_LINE) af rfl) rfl)) af rfl)))
  (ag (av (i:=3) eN.nd rfl (by first | exact Or.inl rfl | exact Or.inr rfl) (bF h7 lS (hr.mono (by first | decide | omega)) (ai (bF hZ kO (hr.mono (by first | decide | omega)) (ai (bv 1) (ai (d7 T.g_SIEVE_LINE) af rfl) rfl)) af rfl)))
  (ag (av (i:=4) eN.nd rfl (by first | exact Or.inl rfl | exact Or.inr rfl) (bF jc pG (hr.mono (by first | decide | omega)) (ai (bv 1) (ai (bv 2) af rfl) rfl)))
  (ag (ni (bF mr v9 (hr.mono (by first | decide | omega)) (ai (bv 0) (ai (bv 1) (ai (az aW (d7 T.g_FIRST_ENTRY_LINE) (bv 2)) af rfl) rfl) rfl)))
  (ag (aL (ax (hU (aH hr)) (bv 3) (bF aQ bW (hr.mono (by first | decide | omega)) (ai (bv 4) af rfl)) (au _))
   (ah du)
   aw)
  (ah (aj (jb (ai (bv 3) (ai (bv 4) af rfl) rfl)))))))))),?_⟩
  kas_types;lcg_off;refine zc (o9 es) (qf es) (Ds hok) (by rw [<- qf];unfold gO;rw [la];omega) (fun p H1 hp s1 hl=>?_);lcg_off;refine lq (o9 es) 1 (vr es) rfl hl (by decide) rfl ?_;lcg_off;refine ⟨es.length,rfl,hok.2.1,hok.2.2,fun H2 s2=>?_⟩;lcg_off;refine lq (o9 es) 2 (textOf (mR es)) rfl (s2 _ _ hl) (by decide) rfl ?_;lcg_off;refine ⟨mR es,rfl,d1,fun v H3 s3 hv=>?_⟩;rw [d2,d3] at hv;obtain ⟨t,ys,rfl,ht,hy⟩:=hv.tupE;lcg_off;refine ze (o9 es) es rfl (s3 _ _ (s2 _ _ hl)) (fun i e he=>?_) hok hri (fun pu xs H4 s4 wc cO=>?_)
  ·show (es.map il ++ [jD (cB es)])[i]? = _;rw [List.getElem?_append_left (by rw [List.length_map];exact (List.getElem?_eq_some_iff.mp he).1),List.getElem?_map,he]
   rfl
  lcg_off;refine De es rfl (s4 _ _ (s3 _ _ (s2 _ _ hl))) hok (fun H5 s5=>?_);lcg_off;have KD:cf H5:=tok.same (Same.tr s5 (Same.tr s4 (Same.tr s3 (Same.tr s2 s1))));refine rH es (s5 _ _ wc) (cO.same s5) (by have:=hok.2.2;omega) KD (fun t' H6 s6 Oj ht'=>?_);obtain ⟨_,htb⟩:=KD.tbl;have tp:Aj H5 H6:=nN (s6.toN htb);have Zc:=tp _ _ (s5 _ _ (s4 _ _ ht));obtain ⟨vx,_,rfl,hx,h3⟩:=hy.consE;obtain ⟨vy,_,rfl,Za,h4⟩:=h3.consE;obtain rfl:=h4.nilE;simp only [Rep] at hx Za;subst hx Za;refine Cr Zc ht' ?_;lcg_off;rename_i r H7 s7 hr7;exact q r H7 ((SameB.of (Same.tr s5 (Same.tr s4 (Same.tr s3 (Same.tr s2 s1))))).trans (s6.trans (SameB.of s7))) (Oj.same s7) ⟨t,pu,xs,hr7,s7 _ _ Zc,s7 _ _ (tp _ _ (s5 _ _ wc)),(Reps.tups tp (cO.same s5)).same s7⟩
theorem Bj (es:List Ent) (h1:su es) (h2:dR es) (tok:cf H) (q:∀ r H1,SameB bG H H1->cf H1->RunAt H1 r es->Q (.ref r) H1):A4 K [.str (gO es)] H Q E:=⟨es,rfl,h1,h2,tok,q⟩
end
section
def Gf (K:W.Frag):Sp:=fun vs H Q _=>∃ (t:Addr) (z:Str) (sz bt:Int),vs = [.ref t,.str z]/\H t = some (.tup [.int sz,.int bt])/\0 < sz/\0 <= bt/\cf H/\∀ H1,SameB bG H H1->cf H1->Q (.bl (sJ bt (aX z sz))) H1
theorem lW:aq ["sieve","key","bits"] ["sieve","key"] (ae cY):=⟨rfl,rfl,rfl,by decide +kernel,rfl,by decide +kernel,by decide +kernel⟩
theorem lX (T:Txt K mg) (j6:∀ p ∈ tabs,base.BuiltinsAt mg p) (kIn:K.In base) (N:Fn K mg "may_have" cY ["sieve","key"] f fd):FnOk P w K mg base cy (3) f fd ["sieve","key"] (Gf K):=by
 obtain ⟨_,_,eX⟩:=T.f_places_of;have jf:=kx (P:=P) (w:=w) (base:=base) T j6 kIn eX;refine N.fu.okB lW (fun vs H Q E h=>?_) (fun bq A outer s H vs Q E hr h=>?_)
 ·obtain ⟨t,z,sz,bt,rfl,_⟩:=h
  rfl
 ·obtain ⟨t,z,sz,bt,rfl,ht,hz,hb,tok,q⟩:=h;have yx:∀ p ∈ aX z sz,0 <= p:=fun p hp=>by
   obtain ⟨f,_,rfl⟩:=List.mem_map.mp hp;exact Int.emod_nonneg _ (by omega)
  have qL:(aX z sz).length = 3:=rfl;refine ⟨_,(ag (av (i:=2) lW.nd rfl (by first | exact Or.inl rfl | exact Or.inr rfl) (aG ak (bv 0) b_int (fun _ _=>rfl)))
  (ah (aj (eZ (qZ rfl) T.b_all (by kernel_rfl) (ai (j7 (x:="place") (ix:=[2]) (fv:=["bits"]) (osc:=ae cY) rfl ⟨rfl,by decide +kernel,by decide +kernel,by rfl,by decide +kernel,by decide +kernel,by decide +kernel⟩ (by rfl) (eM (bF eX jf (hr.mono (by first | decide | omega)) (ai (bv 1) (ai (aG ak (bv 0) b_int (fun _ _=>rfl)) af rfl) rfl))) (fun _ _ _ _=>fj) (fun _ _ _ _=>(eW (ck (aH hr)) (az IT (az Cd (bv 1) (bv 0)) b_int) b_int (au _)))) af rfl))))),?_⟩
  kas_types;lcg_off;refine nT hz tok (fun l H1 hl s1 t1 h1=>?_);generalize aX z sz = pl at *;lcg_off;refine Jf (xs:=pl.map V.int) (fun i us F=>Same H1 F/\us = ((pl.take i).map fun p=>V.bl (decide (Builtin.bitAnd (bt / 2 ^ p.toNat) 1 = 1)))/\i <= 3) (by rw [List.length_map,qL,sizeLine_eq];omega) ⟨Same.refl _,rfl,by decide⟩ (fun i us F h=>⟨SqL.of (h.1 _ _ h1),by rw [h.2.1,List.length_map,List.length_take];have:=h.2.2;omega⟩) (fun i v us F hv h=>?_) (fun us pu F F1 h wc sF hF=>?_)
  ·obtain ⟨f1,rfl,_⟩:=h;rw [List.getElem?_map] at hv;obtain ⟨p,hp,rfl⟩:=Option.map_eq_some_iff.mp hv;have hpp:=yx p (List.mem_of_getElem? hp);obtain ⟨Jw,Jv⟩:=List.getElem?_eq_some_iff.mp hp;lcg_off;refine ⟨f1,?_,by omega⟩;rw [List.take_succ_eq_append_getElem Jw,Jv,List.map_append]
   rfl
  ·obtain ⟨f1,rfl,_⟩:=h;rw [List.length_map,List.take_length] at hF;lcg_off;have hF':F1 pu = some (.lst ((pl.map fun p=>decide (Builtin.bitAnd (bt / 2 ^ p.toNat) 1 = 1)).map V.bl)):=by rw [List.map_map];exact hF
   refine lz _ (SqL.of hF') ?_;have e:(pl.map fun p=>decide (Builtin.bitAnd (bt / 2 ^ p.toNat) 1 = 1)).all id = sJ bt pl:=by
    unfold sJ;rw [List.all_map]
    rfl
   rw [e];exact q _ (s1.trans (.of (Same.tr sF f1))) (t1.same (Same.tr sF f1))
theorem yi {t:Addr} {bt:Int} (ht:H t = some (.tup [.int sz,.int bt])) (hz:0 < sz) (hb:0 <= bt) (tok:cf H) (q:∀ H1,SameB bG H H1->cf H1->Q (.bl (sJ bt (aX z sz))) H1):Gf K [.ref t,.str z] H Q E:=⟨t,z,sz,bt,rfl,ht,hz,hb,tok,q⟩
def kA (z:Str) (t:Int) (o:Option Ent) (e:Ent):Option Ent:=if (decide (e.1 = z) && decide (e.2.1 <= t) && (match o with | none=>true | some f=>decide (f.2.1 < e.2.1))) = true then some e else o
theorem qE (h0:e.1 = z) (h1:e.2.1 <= t):kA z t none e = some e:=by simp [kA,h0,h1]
theorem qD {f:Ent} (h0:e.1 = z) (h1:e.2.1 <= t) (h2:f.2.1 < e.2.1):kA z t (some f) e = some e:=by simp [kA,h0,h1,h2]
theorem fT {o:Option Ent} (h0:¬ e.1 = z):kA z t o e = o:=by simp [kA,h0]
theorem jt {o:Option Ent} (h1:¬ e.2.1 <= t):kA z t o e = o:=by unfold kA;rw [decide_eq_false h1];simp
theorem uR {f:Ent} (h2:¬ f.2.1 < e.2.1):kA z t (some f) e = some f:=by unfold kA;exact if_neg (by simp [h2])
def fF (z:Str) (t:Int) (es:List Ent):Option Ent:=es.foldl (kA z t) none
theorem Cq (h:∀ e ∈ es,e.1 ≠ z):fF z t es = none:=by
 unfold fF
 induction es with
 | nil=>rfl
 | cons e r ih =>
  rw [List.foldl_cons,fT (h e List.mem_cons_self)];exact ih fun f hf=>h f (List.mem_cons_of_mem _ hf)
def oE:Option Ent->L2.D
 | none=>.non
 | some e=>aC e
def ua (K:W.Frag):Sp:=fun vs H Q _=>∃ (p:Addr) (z:Str) (t:Int) (xs:List V) (es:List Ent),vs = [.ref p,.str z,.int t]/\H p = some (.tup xs)/\Reps H (es.map aC) xs/\∀ v,Rep H (oE (fF z t es)) v->Q v H
theorem jm:aq ["entries","key","stamp","found","entry"] ["entries","key","stamp"] (ae fM):=⟨rfl,rfl,rfl,by decide +kernel,rfl,by decide +kernel,by decide +kernel⟩
theorem zv (T:Txt K mg) (N:Fn K mg "newest" fM ["entries","key","stamp"] f fd):FnOk P w K mg base cy (1) f fd ["entries","key","stamp"] (ua K):=by
 refine N.fu.okB jm (fun vs H Q E h=>?_) (fun bq A outer s H vs Q E hr h=>?_)
 ·obtain ⟨p,z,t,xs,es,rfl,_⟩:=h
  rfl
 ·obtain ⟨p,z,t,xs,es,rfl,hp,cO,q⟩:=h;obtain ⟨L,l1,l2,l3⟩:=bR cO;have yt:xs.length = es.length:=by rw [<- l1,<- l2,List.length_map,List.length_map]
  refine ⟨_,(ag (av (i:=3) jm.nd rfl (by first | exact Or.inl rfl | exact Or.inr rfl) bB)
  (ag (fi PassesOwn.never rfl (lP (bv 0)) (dD (i:=4) jm.nd rfl (by first | exact Or.inl rfl | exact Or.inr rfl))
   (ah (aL (eF (fh (ax (ck (aH hr)) (aG ak (bv 4) b_int (fun _ _=>rfl)) (bv 1) (au _)) (d6 (ax oh (aG ak (bv 4) b_int (fun _ _=>rfl)) (bv 2) (au _)))))
   (ah (aL (eF (dt (ax iw (bv 3) bB (au _)) (dn (ax nX (aG ak (bv 4) b_int (fun _ _=>rfl)) (aG ak (bv 3) b_int (fun _ _=>rfl)) (au _)))))
   (ah (av (i:=3) jm.nd rfl (by first | exact Or.inl rfl | exact Or.inr rfl) (bv 4)))
   aw))
   aw)))
  (ah (aj (bv 3))))),?_⟩
  kas_types;lcg_off;refine U1 (xs:=xs) (fun i σ H'=>∃ (v:V) (o:Option V),σ = [some (.ref p),some (.str z),some (.int t),some v,o]/\H' = H/\Rep H (oE (fF z t (es.take i))) v) ⟨.non,none,rfl,rfl,by simp only [List.take_zero,fF,List.foldl_nil,oE,Rep]⟩ (fun i σ H' h=>by obtain ⟨_,_,_,rfl,_⟩:=h;exact SqT.of hp) (fun i x σ H' hi hx h=>?_) (fun σ H' h=>?_)
  ·obtain ⟨v,o,rfl,rfl,hv⟩:=h;rw [<- l2,List.getElem?_map] at hx;obtain ⟨te,qK,rfl⟩:=Option.map_eq_some_iff.mp hx;have iY:=l3 te (List.mem_of_getElem? qK);have Aq:es[i]? = some te.1:=by rw [<- l1,List.getElem?_map,qK];rfl
   obtain ⟨kQ,vp⟩:=List.getElem?_eq_some_iff.mp Aq;have pW:fF z t (es.take (i + 1)) = kA z t (fF z t (es.take i)) te.1:=by
    unfold fF;rw [List.take_succ_eq_append_getElem kQ,vp,List.foldl_append]
    rfl
   generalize fF z t (es.take i) = om at *;obtain ⟨c,x,ec,hc,hx2⟩:=cG iY;rw [ec] at iY;rw [ec];lcg_off;refine aI (fun h0=>?_) (fun h0=>?_)
   ·lcg_off;refine aI (fun h1=>?_) (fun h1=>?_)
    ·lcg_off
     cases om with
     | none =>
      have e:v = .non:=by simpa only [oE,Rep] using hv
      subst e;lcg_off;refine ⟨_,_,rfl,rfl,?_⟩;rw [pW,qE h0 h1];exact iY
     | some f =>
      obtain ⟨c1,x1,rfl,N6,hx1⟩:=cG (show Rep H' (aC f) v from hv);lcg_off;refine aI (fun h2=>?_) (fun h2=>?_)
      ·lcg_off;refine ⟨_,_,rfl,rfl,?_⟩;rw [pW,qD h0 h1 h2];exact iY
      ·lcg_off;refine ⟨_,_,rfl,rfl,?_⟩;rw [pW,uR h2];exact hv
    ·lcg_off;refine ⟨_,_,rfl,rfl,?_⟩;rw [pW,jt h1];exact hv
   ·rw [if_neg (by simp)];lcg_off;refine ⟨_,_,rfl,rfl,?_⟩;rw [pW,fT h0];exact hv
  ·obtain ⟨v,o,rfl,rfl,hv⟩:=h;rw [yt,List.take_length] at hv;lcg_off;exact q v hv
theorem xl (es:List Ent) (hp:H p = some (.tup xs)) (cO:Reps H (es.map aC) xs) (q:∀ v,Rep H (oE (fF z t es)) v->Q v H):ua K [.ref p,.str z,.int t] H Q E:=⟨p,z,t,xs,es,rfl,hp,cO,q⟩
def wB (K:W.Frag):Sp:=fun vs H Q _=>∃ (r sv p:Addr) (z:Str) (t sz bt:Int) (xs:List V) (es:List Ent),vs = [.ref r,.str z,.int t]/\H r = some (.tup [.ref sv,.ref p])/\H sv = some (.tup [.int sz,.int bt])/\H p = some (.tup xs)/\Reps H (es.map aC) xs/\0 < sz/\0 <= bt/\cf H/\∀ v H1,SameB bG H H1->cf H1->Rep H1 (oE (if sJ bt (aX z sz) = true then fF z t es else none)) v->Q v H1
theorem D9:aq ["run","key","stamp"] ["run","key","stamp"] (ae jW):=⟨rfl,rfl,rfl,by decide +kernel,rfl,by decide +kernel,by decide +kernel⟩
theorem EY (T:Txt K mg) (j6:∀ p ∈ tabs,base.BuiltinsAt mg p) (kIn:K.In base) (N:Fn K mg "find" jW ["run","key","stamp"] f fd):FnOk P w K mg base cy (4) f fd ["run","key","stamp"] (wB K):=by
 obtain ⟨_,_,vT⟩:=T.f_newest;have Dz:=zv (P:=P) (w:=w) (base:=base) T vT;obtain ⟨_,_,gj⟩:=T.f_may_have;have kb:=lX (P:=P) (w:=w) (base:=base) T j6 kIn gj;refine N.fu.okB D9 (fun vs H Q E h=>?_) (fun bq A outer s H vs Q E hr h=>?_)
 ·obtain ⟨r,sv,p,z,t,sz,bt,xs,es,rfl,_⟩:=h
  rfl
 ·obtain ⟨r,sv,p,z,t,sz,bt,xs,es,rfl,Ap,Uj,hp,cO,hz,hb,tok,q⟩:=h;refine ⟨_,(ag (aL (bU (bh (bF gj kb (hr.mono (by first | decide | omega)) (ai (aG ak (bv 0) b_int (fun _ _=>rfl)) (ai (bv 1) af rfl) rfl)) (fun _=>rfl)))
   (ah (aj bB))
   aw)
  (ah (aj (bF vT Dz (hr.mono (by first | decide | omega)) (ai (aG ak (bv 0) b_int (fun _ _=>rfl)) (ai (bv 1) (ai (bv 2) af rfl) rfl) rfl))))),?_⟩
  kas_types;lcg_off;refine yi Uj hz hb tok (fun H1 s1 t1=>?_);obtain ⟨qs,hT⟩:=tok.tbl;have Kd:=s1.toN hT;have q1:=fun v=>q v H1 s1 t1
  cases hm:sJ bt (aX z sz) with
  | false =>
   rw [hm] at q1;lcg_off;exact q1 _ (by simp [oE,Rep])
  | true =>
   rw [hm] at q1;lcg_off;have hr1:=Kd _ _ Ap (fun _ z=>by cases z);lcg_off;exact xl es (Kd _ _ hp (fun _ z=>by cases z)) (Reps.sameN Kd cO) (fun v hv=>q1 v (by rw [if_pos rfl];exact hv))
theorem CW {sv:Addr} {bt:Int} (es:List Ent) (hr:H r = some (.tup [.ref sv,.ref p])) (Uj:H sv = some (.tup [.int sz,.int bt])) (hp:H p = some (.tup xs)) (cO:Reps H (es.map aC) xs) (hz:0 < sz) (hb:0 <= bt) (tok:cf H) (q:∀ v H1,SameB bG H H1->cf H1->Rep H1 (oE (if sJ bt (aX z sz) = true then fF z t es else none)) v->Q v H1):wB K [.ref r,.str z,.int t] H Q E:=⟨r,sv,p,z,t,sz,bt,xs,es,rfl,hr,Uj,hp,cO,hz,hb,tok,q⟩
def Gi (K:W.Frag):Sp:=fun vs H Q _=>∃ (p:Addr) (z:Str) (t:Int) (xs:List V) (es:List Ent),vs = [.ref p,.str z,.int t]/\H p = some (.lst xs)/\Reps H (es.map aC) xs/\∀ v,Rep H (oE (fF z t es)) v->Q v H
theorem gA:aq ["_law_entries","_law_named","_law_stamp","_law_due_here","_law_entry"] ["_law_entries","_law_named","_law_stamp"] (ae dO):=⟨rfl,rfl,rfl,by decide +kernel,rfl,by decide +kernel,by decide +kernel⟩
theorem uL (T:Txt K mg) (N:Fn K mg "_law_due" dO ["_law_entries","_law_named","_law_stamp"] f fd):FnOk P w K mg base cy (1) f fd ["_law_entries","_law_named","_law_stamp"] (Gi K):=by
 refine N.fu.okB gA (fun vs H Q E h=>?_) (fun bq A outer s H vs Q E hr h=>?_)
 ·obtain ⟨p,z,t,xs,es,rfl,_⟩:=h
  rfl
 ·obtain ⟨p,z,t,xs,es,rfl,hp,cO,q⟩:=h;obtain ⟨L,l1,l2,l3⟩:=bR cO;have yt:xs.length = es.length:=by rw [<- l1,<- l2,List.length_map,List.length_map]
  refine ⟨_,(ag (av (i:=3) gA.nd rfl (by first | exact Or.inl rfl | exact Or.inr rfl) bB)
  (ag (fi PassesOwn.never rfl (eM (bv 0)) (dD (i:=4) gA.nd rfl (by first | exact Or.inl rfl | exact Or.inr rfl))
   (ah (aL (eF (fh (ax (ck (aH hr)) (aG ak (bv 4) b_int (fun _ _=>rfl)) (bv 1) (au _)) (fh (ax oh (aG ak (bv 4) b_int (fun _ _=>rfl)) (bv 2) (au _)) (d6 (eF (dt (ax iw (bv 3) bB (au _)) (dn (ax nX (aG ak (bv 4) b_int (fun _ _=>rfl)) (aG ak (bv 3) b_int (fun _ _=>rfl)) (au _)))))))))
   (ah (av (i:=3) gA.nd rfl (by first | exact Or.inl rfl | exact Or.inr rfl) (bv 4)))
   aw)))
  (ah (aj (bv 3))))),?_⟩
  kas_types;lcg_off;refine forL (xs:=xs) (fun i σ H'=>∃ (v:V) (o:Option V),σ = [some (.ref p),some (.str z),some (.int t),some v,o]/\H' = H/\Rep H (oE (fF z t (es.take i))) v) ⟨.non,none,rfl,rfl,by simp only [List.take_zero,fF,List.foldl_nil,oE,Rep]⟩ (fun i σ H' h=>by obtain ⟨_,_,_,rfl,_⟩:=h;exact SqL.of hp) (fun i x σ H' hi hx h=>?_) (fun σ H' h=>?_)
  ·obtain ⟨v,o,rfl,rfl,hv⟩:=h;rw [<- l2,List.getElem?_map] at hx;obtain ⟨te,qK,rfl⟩:=Option.map_eq_some_iff.mp hx;have iY:=l3 te (List.mem_of_getElem? qK);have Aq:es[i]? = some te.1:=by rw [<- l1,List.getElem?_map,qK];rfl
   obtain ⟨kQ,vp⟩:=List.getElem?_eq_some_iff.mp Aq;have pW:fF z t (es.take (i + 1)) = kA z t (fF z t (es.take i)) te.1:=by
    unfold fF;rw [List.take_succ_eq_append_getElem kQ,vp,List.foldl_append]
    rfl
   generalize fF z t (es.take i) = om at *;obtain ⟨c,x,ec,hc,hx2⟩:=cG iY;rw [ec] at iY;rw [ec];lcg_off;refine aI (fun h0=>?_) (fun h0=>?_)
   ·lcg_off;refine aI (fun h1=>?_) (fun h1=>?_)
    ·lcg_off
     cases om with
     | none =>
      have e:v = .non:=by simpa only [oE,Rep] using hv
      subst e;lcg_off;refine ⟨_,_,rfl,rfl,?_⟩;rw [pW,qE h0 h1];exact iY
     | some f =>
      obtain ⟨c1,x1,rfl,N6,hx1⟩:=cG (show Rep H' (aC f) v from hv);lcg_off;refine aI (fun h2=>?_) (fun h2=>?_)
      ·lcg_off;refine ⟨_,_,rfl,rfl,?_⟩;rw [pW,qD h0 h1 h2];exact iY
      ·lcg_off;refine ⟨_,_,rfl,rfl,?_⟩;rw [pW,uR h2];exact hv
    ·rw [if_neg (by simp)];lcg_off;refine ⟨_,_,rfl,rfl,?_⟩;rw [pW,jt h1];exact hv
   ·rw [if_neg (by simp)];lcg_off;refine ⟨_,_,rfl,rfl,?_⟩;rw [pW,fT h0];exact hv
  ·obtain ⟨v,o,rfl,rfl,hv⟩:=h;rw [yt,List.take_length] at hv;lcg_off;exact q v hv
theorem FA (es:List Ent) (hp:H p = some (.lst xs)) (cO:Reps H (es.map aC) xs) (q:∀ v,Rep H (oE (fF z t es)) v->Q v H):Gi K [.ref p,.str z,.int t] H Q E:=⟨p,z,t,xs,es,rfl,hp,cO,q⟩
end
section
def mQ (lo hz:Str) (e:Ent):Bool:=!decide (e.1.cps.toList < lo.cps.toList) && decide (e.1.cps.toList < hz.cps.toList)
theorem CF {hi:Str} (h:decide (e.1.cps.toList < lo.cps.toList) = true):mQ lo hi e = false:=by
 unfold mQ;rw [h]
 rfl
theorem kC {hz:Str} (h:decide (e.1.cps.toList < lo.cps.toList) = false):mQ lo hz e = decide (e.1.cps.toList < hz.cps.toList):=by
 unfold mQ;rw [h]
 rfl
theorem qS {f:Ent->Bool}:(es ++ [e]).filter f = es.filter f ++ if f e = true then [e] else []:=by
 rw [List.filter_append]
 cases h:f e <;> simp [h]
def qj (K:W.Frag):Sp:=fun vs H Q _=>∃ (p:Addr) (lo:Str) (hi:Str) (xs:List V) (es:List Ent),vs = [.ref p,.str lo,.str hi]/\H p = some (.tup xs)/\Reps H (es.map aC) xs/\es.length < 1000/\∀ l H1 ys,H l = none->Same H H1->H1 l = some (.lst ys)->Reps H1 ((es.filter (mQ lo hi)).map aC) ys->Q (.ref l) H1
theorem wD:aq ["entries","low","high"] ["entries","low","high"] (ae dQ):=⟨rfl,rfl,rfl,by decide +kernel,rfl,by decide +kernel,by decide +kernel⟩
theorem xf (T:Txt K mg) (N:Fn K mg "stretch" dQ ["entries","low","high"] f fd):FnOk P w K mg base cy (1) f fd ["entries","low","high"] (qj K):=by
 refine N.fu.okB wD (fun vs H Q E h=>?_) (fun bq A outer s H vs Q E hr h=>?_)
 ·obtain ⟨p,lo,hi,xs,es,rfl,_⟩:=h
  rfl
 ·obtain ⟨p,lo,hi,xs,es,rfl,hp,cO,hz,q⟩:=h;obtain ⟨L,l1,l2,l3⟩:=bR cO;have yt:xs.length = es.length:=by rw [<- l1,<- l2,List.length_map,List.length_map]
  refine ⟨_,(ah (aj (j7 (x:="entry") (ix:=[1,2]) (fv:=["low","high"]) (osc:=ae dQ) rfl ⟨rfl,by decide +kernel,by decide +kernel,by rfl,by decide +kernel,by decide +kernel,by decide +kernel⟩ (by rfl) (lP (bv 0)) (fun _ _ _ _=>(sX (eF (fh (ax oh (bv 1) (aG (cR (K:=K) rfl) (bv 0) b_int (fun _ _=>rfl)) (au _)) (d6 (eF (dt (ax iw (bv 2) bB (au _)) (dn (ax sy (aG (cR (K:=K) rfl) (bv 0) b_int (fun _ _=>rfl)) (bv 2) (au _)))))))))) (fun _ _ _ _=>(bv 0))))),?_⟩
  kas_types;lcg_off;refine GH (xs:=xs) (fun i us F=>Same H F/\Reps F (((es.take i).filter (mQ lo hi)).map aC) us/\us.length <= i) (by rw [yt,sizeLine_eq];omega) ⟨Same.refl _,by simp only [List.take_zero,List.filter_nil,List.map_nil,Reps],Nat.le_refl _⟩ (fun i us F h=>⟨SqT.of (h.1 _ _ hp),h.2.2⟩) (fun i v us F hv h=>?_) (fun us Pz F F1 h Ul sF hF=>?_)
  ·obtain ⟨f1,f2,f3⟩:=h;rw [<- l2,List.getElem?_map] at hv;obtain ⟨te,qK,rfl⟩:=Option.map_eq_some_iff.mp hv;have Aq:es[i]? = some te.1:=by rw [<- l1,List.getElem?_map,qK];rfl
   obtain ⟨kQ,vp⟩:=List.getElem?_eq_some_iff.mp Aq;have iY:=(l3 te (List.mem_of_getElem? qK)).same f1;obtain ⟨c,x,ec,hc,hx⟩:=cG iY;rw [ec] at iY;rw [ec];have pW:(es.take (i + 1)).filter (mQ lo hi) = (es.take i).filter (mQ lo hi) ++ if mQ lo hi te.1 = true then [te.1] else []:=by rw [List.take_succ_eq_append_getElem kQ,vp,qS]
   have yes:mQ lo hi te.1 = true->Same H F/\Reps F (((es.take (i + 1)).filter (mQ lo hi)).map aC) (us ++ [.ref c])/\(us ++ [V.ref c]).length <= i + 1:=fun hy=>by
    refine ⟨f1,?_,by rw [List.length_append];simp;omega⟩;rw [pW,if_pos hy,List.map_append];exact Reps.snoc f2 iY
   have no:mQ lo hi te.1 = false->Same H F/\Reps F (((es.take (i + 1)).filter (mQ lo hi)).map aC) us/\us.length <= i + 1:=fun hn=>by
    refine ⟨f1,?_,by omega⟩;rw [pW,if_neg (by rw [hn];simp),List.append_nil];exact f2
   lcg_off;refine fW (fun h0=>?_) (fun h0=>?_)
   ·lcg_off;refine GK (fun h1=>?_) (fun h1=>?_)
    ·lcg_off;exact yes ((kC h0).trans h1)
    ·exact no ((kC h0).trans h1)
   ·rw [if_neg (by simp)];exact no (CF h0)
  obtain ⟨f1,f2,_⟩:=h;rw [yt,List.take_length] at f2;exact q Pz F1 us (Same.free f1 Ul) (Same.tr sF f1) hF (f2.same sF)
theorem tW (hi:Str) (es:List Ent) (hp:H p = some (.tup xs)) (cO:Reps H (es.map aC) xs) (hz:es.length < 1000) (q:∀ l H1 ys,H l = none->Same H H1->H1 l = some (.lst ys)->Reps H1 ((es.filter (mQ lo hi)).map aC) ys->Q (.ref l) H1):qj K [.ref p,.str lo,.str hi] H Q E:=⟨p,lo,hi,xs,es,rfl,hp,cO,hz,q⟩
def qm (K:W.Frag):Sp:=fun vs H Q _=>∃ (t p:Addr) (sv:V) (lo:Str) (hi:Str) (xs:List V) (es:List Ent),vs = [.ref t,.str lo,.str hi]/\H t = some (.tup [sv,.ref p])/\H p = some (.tup xs)/\Reps H (es.map aC) xs/\es.length < 1000/\∀ l H1 ys,H l = none->Same H H1->H1 l = some (.lst ys)->Reps H1 ((es.filter (mQ lo hi)).map aC) ys->Q (.ref l) H1
theorem wI:aq ["run","low","high"] ["run","low","high"] (ae et):=⟨rfl,rfl,rfl,by decide +kernel,rfl,by decide +kernel,by decide +kernel⟩
theorem xj (T:Txt K mg) (N:Fn K mg "between" et ["run","low","high"] f fd):FnOk P w K mg base cy (2) f fd ["run","low","high"] (qm K):=by
 obtain ⟨_,_,rq⟩:=T.f_stretch;have Ak:=xf (P:=P) (w:=w) (base:=base) T rq;refine N.fu.okB wI (fun vs H Q E h=>?_) (fun bq A outer s H vs Q E hr h=>?_)
 ·obtain ⟨t,p,sv,lo,hi,xs,es,rfl,_⟩:=h
  rfl
 ·obtain ⟨t,p,sv,lo,hi,xs,es,rfl,ht,hp,cO,hz,q⟩:=h;refine ⟨_,(ah (aj (bF rq Ak (hr.mono (by first | decide | omega)) (ai (aG ak (bv 0) b_int (fun _ _=>rfl)) (ai (bv 1) (ai (bv 2) af rfl) rfl) rfl)))),?_⟩
  kas_types;lcg_off;exact tW hi es hp cO hz q
theorem vN {t:Addr} {sv:V} (hi:Str) (es:List Ent) (ht:H t = some (.tup [sv,.ref p])) (hp:H p = some (.tup xs)) (cO:Reps H (es.map aC) xs) (hz:es.length < 1000) (q:∀ l H1 ys,H l = none->Same H H1->H1 l = some (.lst ys)->Reps H1 ((es.filter (mQ lo hi)).map aC) ys->Q (.ref l) H1):qm K [.ref t,.str lo,.str hi] H Q E:=⟨t,p,sv,lo,hi,xs,es,rfl,ht,hp,cO,hz,q⟩
end
section
theorem SqL.sameN (h:SqL K H a xs) (s:SameN H H'):SqL K H' a xs:=by
 rcases h with (h | ⟨o,h⟩) | h
 ·exact .inl (.inl (s _ _ h (fun _ z=>by cases z)))
 ·exact .inl (.inr ⟨o,s _ _ h (fun _ z=>by cases z)⟩)
 ·exact .inr h
theorem Bl:∀ {es:List Ent},(es.map gT).Nodup->∀ x ∈ es,∀ y ∈ es,gT x = gT y->x = y
 | [],_,x,hx,_,_,_=>(nomatch hx)
 | e :: es,nd,x,hx,y,hy,h=>by
  rw [List.map_cons,List.nodup_cons] at nd
  rcases List.mem_cons.mp hx with zP | zP <;> rcases List.mem_cons.mp hy with CI | CI
  ·rw [zP,CI]
  ·exact absurd (by rw [<- zP,h];exact List.mem_map.mpr ⟨y,CI,rfl⟩) nd.1
  ·exact absurd (by rw [<- CI,<- h];exact List.mem_map.mpr ⟨x,zP,rfl⟩) nd.1
  ·exact Bl nd.2 x zP y CI h
theorem Cp (pm:fs.Perm es) (nd:(es.map gT).Nodup):fF z t fs = fF z t es:=by
 refine pm.foldl_eq' (fun x hx y hy o=>?_) none
 by_cases Zb:gT x = gT y
 ·rw [Bl nd x (pm.mem_iff.mp hx) y (pm.mem_iff.mp hy) Zb]
 by_cases a:x.1 = z
 ·by_cases b:y.1 = z
  ·by_cases c:x.2.1 <= t
   ·by_cases d:y.2.1 <= t
    ·have hne:x.2.1 ≠ y.2.1:=fun h=>Zb (by unfold gT;rw [a,b,h])
     unfold kA;rw [decide_eq_true a,decide_eq_true b,decide_eq_true c,decide_eq_true d]
     cases o with
     | none =>
      by_cases h:x.2.1 < y.2.1
      ·simp [h];omega
      ·simp [h];omega
     | some f =>
      by_cases h:x.2.1 < y.2.1 <;> by_cases g:f.2.1 < x.2.1 <;> by_cases i:f.2.1 < y.2.1 <;> simp [h,g,i] <;> omega
    ·rw [jt d,jt d]
   ·rw [jt c,jt c]
  ·rw [fT b,fT b]
 ·rw [fT a,fT a]
theorem Cv (es:List Ent):0 <= kJ es/\∀ e ∈ es,sJ (kJ es) (aX e.1 (jA es)) = true:=by
 obtain ⟨m,h1,h2⟩:=kZ (sz:=wa (es.map (·.1))) (es.map (·.1)) 0;have e:kJ es = (m:Int):=h1;rw [e];refine ⟨by omega,fun f hf=>?_⟩
 unfold sJ;rw [List.all_eq_true];intro p hp;rw [Dn,h2];exact .inr ⟨f.1,List.mem_map.mpr ⟨f,hf,rfl⟩,p,hp,rfl⟩
theorem x9 (es:List Ent):0 < jA es:=by
 unfold jA wa;omega
def ListAt (H:Hp) (p:Addr) (es:List Ent):Prop:=∃ xs,H p = some (.lst xs)/\Reps H (es.map aC) xs
theorem ListAt.sameN (h:ListAt H p es) (s:SameN H H'):ListAt H' p es:=by
 obtain ⟨xs,h1,h2⟩:=h;exact ⟨xs,s _ _ h1 (fun _ z=>by cases z),Reps.sameN s h2⟩
theorem ListAt.same (h:ListAt H p es) (s:Same H H'):ListAt H' p es:=h.sameN (.of s)
theorem RunAt.sameN (h:RunAt H r es) (s:SameN H H'):RunAt H' r es:=by
 obtain ⟨t,pu,xs,h1,h2,h3,h4⟩:=h;exact ⟨t,pu,xs,s _ _ h1 (fun _ z=>by cases z),s _ _ h2 (fun _ z=>by cases z),s _ _ h3 (fun _ z=>by cases z),Reps.sameN s h4⟩
theorem RunAt.same (h:RunAt H r es) (s:Same H H'):RunAt H' r es:=h.sameN (.of s)
theorem Bi (h:RunAt H r fs) (tok:cf H) (q:∀ v H1,SameB bG H H1->cf H1->Rep H1 (oE (fF z t fs)) v->Q v H1):wB K [.ref r,.str z,.int t] H Q E:=by
 obtain ⟨sv,pu,xs,h1,h2,h3,h4⟩:=h;obtain ⟨m1,m2⟩:=Cv fs;refine CW fs h1 h2 h3 h4 (x9 fs) m1 tok (fun v H1 s1 t1 hv=>q v H1 s1 t1 ?_)
 split at hv
 ·exact hv
 ·next hn =>
  rw [Cq fun e he hz=>hn (by rw [<- hz];exact m2 e he)]
  exact hv
theorem kr (hp:H p = some (.lst xs)) (cO:Reps H (es.map aC) xs) (hl:1 <= es.length) (q:∀ (e:Ent) (c:Addr) (x:V),e ∈ es->H c = some (.tup [.str e.1,.int e.2.1,x])->Q (.ref c) H):En K (.ref p) (.int (i % (xs.length:Int))) H Q:=by
 obtain ⟨L,l1,l2,l3⟩:=bR cO;have yt:xs.length = es.length:=by rw [<- l1,<- l2,List.length_map,List.length_map]
 refine jo (SqL.of hp) (Int.emod_nonneg _ (by omega)) (Int.emod_lt_of_pos _ (by omega)) (fun u hu=>?_);rw [<- l2] at hu;obtain ⟨te,qK,rfl⟩:=List.mem_map.mp hu;obtain ⟨c,v,ec,hc,hv⟩:=cG (l3 te qK);rw [ec];exact q te.1 c v (by rw [<- l1];exact List.mem_map.mpr ⟨te,qK,rfl⟩) hc
def Gm (K:W.Frag):Sp:=fun vs H Q _=>∃ (r p px:Addr) (es fs:List Ent) (x0 x1 x2 x3:Int) (xr:List V),vs = [.ref r,.ref p,.ref px]/\RunAt H r fs/\ListAt H p es/\fs.Perm es/\(es.map gT).Nodup/\su es/\H px = some (.lst (.int x0 :: .int x1 :: .int x2 :: .int x3 :: xr))/\0 <= x2/\cf H/\∀ H1,SameB bG H H1->cf H1->Q (.bl true) H1
theorem cg:aq ["_law_run","_law_entries","_law_xs","_law_entry","_law_other","_law_named","_law_told","_law_due_here"] ["_law_run","_law_entries","_law_xs"] (ae bQ):=⟨rfl,rfl,rfl,by decide +kernel,rfl,by decide +kernel,by decide +kernel⟩
theorem mM (T:Txt K mg) (j6:∀ p ∈ tabs,base.BuiltinsAt mg p) (kIn:K.In base) (N:Fn K mg "_law_answers" bQ ["_law_run","_law_entries","_law_xs"] f fd):FnOk P w K mg base cy (5) f fd ["_law_run","_law_entries","_law_xs"] (Gm K):=by
 obtain ⟨_,_,Dw⟩:=T.f_find;have J':=EY (P:=P) (w:=w) (base:=base) T j6 kIn Dw;obtain ⟨_,_,pE⟩:=T.f__law_due;have xQ:=uL (P:=P) (w:=w) (base:=base) T pE;obtain ⟨_,_,cp⟩:=T.f__law_entry_same;have d9:=fS (P:=P) (w:=w) (base:=base) T cp;obtain ⟨_,_,eY⟩:=T.f__law_near;have jh:=kz (P:=P) (w:=w) (base:=base) T eY;refine N.fu.okB cg (fun vs H Q E h=>?_) (fun bq A outer s H vs Q E hr h=>?_)
 ·obtain ⟨r,p,px,es,fs,x0,x1,x2,x3,xr,rfl,_⟩:=h
  rfl
 ·obtain ⟨r,p,px,es,fs,x0,x1,x2,x3,xr,rfl,hR,⟨xs,hp,cO⟩,pm,nd,hok,hx,n2,tok,q⟩:=h;have Ud:=cO.length;rw [List.length_map] at Ud;have GS:=hok.2.1;refine ⟨_,(ag (av (i:=3) cg.nd rfl (by first | exact Or.inl rfl | exact Or.inr rfl) (aG ak (bv 1) (az aM (aG ak (bv 2) b_int (fun _ _=>rfl)) (eZ bT T.b_len (by kernel_rfl) (ai (bv 1) af rfl))) (fun _ _=>rfl)))
  (ag (av (i:=4) cg.nd rfl (by first | exact Or.inl rfl | exact Or.inr rfl) (aG ak (bv 1) (az aM (aG ak (bv 2) b_int (fun _ _=>rfl)) (eZ bT T.b_len (by kernel_rfl) (ai (bv 1) af rfl))) (fun _ _=>rfl)))
  (ag (av (i:=5) cg.nd rfl (by first | exact Or.inl rfl | exact Or.inr rfl) (aG ak (fw (ai (aG ak (bv 3) b_int (fun _ _=>rfl)) (ai (bF eY jh (hr.mono (by first | decide | omega)) (ai (aG ak (bv 3) b_int (fun _ _=>rfl)) (ai (aG ak (bv 2) b_int (fun _ _=>rfl)) af rfl) rfl)) af rfl) rfl)) (az aM (aG ak (bv 2) b_int (fun _ _=>rfl)) b_int) (fun _ _=>rfl)))
  (ag (av (i:=6) cg.nd rfl (by first | exact Or.inl rfl | exact Or.inr rfl) (bF Dw J' (hr.mono (by first | decide | omega)) (ai (bv 0) (ai (bv 5) (ai (aG ak (bv 4) b_int (fun _ _=>rfl)) af rfl) rfl) rfl)))
  (ag (av (i:=7) cg.nd rfl (by first | exact Or.inl rfl | exact Or.inr rfl) (bF pE xQ (hr.mono (by first | decide | omega)) (ai (bv 1) (ai (bv 5) (ai (aG ak (bv 4) b_int (fun _ _=>rfl)) af rfl) rfl) rfl)))
  (ag (aL (eF (dt (ax iw (bv 7) bB (au _)) (dn (ax iw (bv 6) bB (au _)))))
   (ah (aj (oZ (eW iw (bv 7) bB (au _)) (mh (eW iw (bv 6) bB (au _))))))
   aw)
  (ah (aj (bF cp d9 (hr.mono (by first | decide | omega)) (ai (bv 6) (ai (bv 7) af rfl) rfl)))))))))),?_⟩
  kas_types;lcg_off;refine dU (SqL.of hx) (bZ (j:=0) (v:=.int x0) rfl) ?_;lcg_off;refine kr hp cO hok.2.1 (fun e c x he hc=>?_);lcg_off;refine dU (SqL.of hx) (bZ (j:=1) (v:=.int x1) rfl) ?_;lcg_off;refine kr hp cO hok.2.1 (fun e2 c2 x2' he2 yy=>?_);lcg_off;refine dU (SqL.of hx) (bZ (j:=2) (v:=.int x2) rfl) ?_;lcg_off;refine uS (hok.1 e he).1 n2 (fun z1 _=>?_);lcg_off;rename_i pl H2 qL s2 h2;refine dU (SqL.of (s2 _ _ hx)) (bZ (j:=3) (v:=.int x3) rfl) ?_;lcg_off;refine jo (SqL.of h2) (Int.emod_nonneg _ (by decide)) (Int.emod_lt_of_pos _ (by decide)) (fun u hu=>?_);obtain ⟨z,rfl⟩:∃ z:Str,u = .str z:=by
   simp only [List.mem_cons,List.not_mem_nil,or_false] at hu
   rcases hu with rfl | rfl <;> exact ⟨_,rfl⟩
  have hc3:=s2 _ _ yy;lcg_off;refine Bi (hR.same s2) (tok.same s2) (fun v1 H3 s3 t3 hv1=>?_)
  obtain ⟨_,hT⟩:=(tok.same s2).tbl;have n3:=s3.toN hT;have hc4:=n3 _ _ hc3 (fun _ z=>by cases z)
  lcg_off;refine FA es (n3 _ _ (s2 _ _ hp) (fun _ z=>by cases z)) (Reps.sameN n3 (cO.same s2)) (fun v2 hv2=>?_);rw [<- Cp pm nd] at hv2;have q3:=q H3 ((SameB.of s2).trans s3) t3
  cases hm:fF z e2.2.1 fs with
  | none =>
   rw [hm] at hv1 hv2;have e1:v1 = .non:=by simpa only [oE,Rep] using hv1
   have e2:v2 = .non:=by simpa only [oE,Rep] using hv2
   subst e1 e2;lcg_off;exact q3
  | some e =>
   rw [hm] at hv1 hv2;obtain ⟨c1,y1,rfl,N6,_⟩:=cG (show Rep H3 (aC e) v1 from hv1);obtain ⟨c2,y2,rfl,yy,_⟩:=cG (show Rep H3 (aC e) v2 from hv2);lcg_off;exact qT e hv1 hv2 q3
theorem FO {px:Addr} {x0 x1 x2 x3:Int} {xr:List V} (hR:RunAt H r fs) (hp:ListAt H p es) (pm:fs.Perm es) (nd:(es.map gT).Nodup) (hok:su es) (hx:H px = some (.lst (.int x0 :: .int x1 :: .int x2 :: .int x3 :: xr))) (n2:0 <= x2) (tok:cf H) (q:∀ H1,SameB bG H H1->cf H1->Q (.bl true) H1):Gm K [.ref r,.ref p,.ref px] H Q E:=⟨r,p,px,es,fs,x0,x1,x2,x3,xr,rfl,hR,hp,pm,nd,hok,hx,n2,tok,q⟩
def F' (K:W.Frag):Sp:=fun vs H Q _=>∃ (r p px:Addr) (es fs:List Ent) (x0 x1:Int) (xr:List V),vs = [.ref r,.ref p,.ref px]/\RunAt H r fs/\ListAt H p es/\fs.Perm es/\dR fs/\(es.map gT).Nodup/\su es/\H px = some (.lst (.int x0 :: .int x1 :: xr))/\As H/\∀ H1,SameB kU H H1->As H1->Q (.bl true) H1
theorem cP:aq ["_law_run","_law_entries","_law_xs","_law_low","_law_high","_law_due_here"] ["_law_run","_law_entries","_law_xs"] (ae aV):=⟨rfl,rfl,rfl,by decide +kernel,rfl,by decide +kernel,by decide +kernel⟩
theorem ky (T:Txt K mg) (j6:∀ p ∈ tabs,base.BuiltinsAt mg p) (kIn:K.In base) (N:Fn K mg "_law_stretched" aV ["_law_run","_law_entries","_law_xs"] f fd):FnOk P w K mg base cy (6) f fd ["_law_run","_law_entries","_law_xs"] (F' K):=by
 obtain ⟨_,_,cM⟩:=T.f__law_all_same;have fq:=gZ (P:=P) (w:=w) (base:=base) T cM;obtain ⟨_,_,rB⟩:=T.f_between;have Am:=xj (P:=P) (w:=w) (base:=base) T rB;obtain ⟨_,_,_,cL,dY,dZ⟩:=T.c__law_in_order;have fo:=gY (P:=P) (w:=w) (base:=base) T j6 cL dY dZ kIn;refine N.fu.okB cP (fun vs H Q E h=>?_) (fun bq A outer s H vs Q E hr h=>?_)
 ·obtain ⟨r,p,px,es,fs,x0,x1,xr,rfl,_⟩:=h
  rfl
 ·obtain ⟨r,p,px,es,fs,x0,x1,xr,rfl,hR,⟨xs,hp,cO⟩,pm,rise,nd,hok,hx,tok,q⟩:=h;have Ud:=cO.length;rw [List.length_map] at Ud;have GS:=hok.2.1;refine ⟨_,(ag (av (i:=3) cP.nd rfl (by first | exact Or.inl rfl | exact Or.inr rfl) (aG ak (aG ak (bv 1) (az aM (aG ak (bv 2) b_int (fun _ _=>rfl)) (eZ bT T.b_len (by kernel_rfl) (ai (bv 1) af rfl))) (fun _ _=>rfl)) b_int (fun _ _=>rfl)))
  (ag (av (i:=4) cP.nd rfl (by first | exact Or.inl rfl | exact Or.inr rfl) (aG ak (aG ak (bv 1) (az aM (aG ak (bv 2) b_int (fun _ _=>rfl)) (eZ bT T.b_len (by kernel_rfl) (ai (bv 1) af rfl))) (fun _ _=>rfl)) b_int (fun _ _=>rfl)))
  (ag (Dj (x:="_law_entry") (ix:=[3,4]) (fv:=["_law_low","_law_high"]) (osc:=ae aV) rfl ⟨rfl,by decide +kernel,by decide +kernel,by rfl,by decide +kernel,by decide +kernel,by decide +kernel⟩ (by rfl) (eM (bF cL fo (hr.mono (by first | decide | omega)) (ai (bv 1) af rfl))) (fun _ _ _ _=>(sX (vK oh sy (bv 1) (aG (cR (K:=K) rfl) (bv 0) b_int (fun _ _=>rfl)) (bv 2)))) (fun _ _ _ _=>(bv 0)) (iy:=5) cP.nd rfl (by first | exact Or.inl rfl | exact Or.inr rfl))
  (ah (aj (bF cM fq (hr.mono (by first | decide | omega)) (ai (bF rB Am (hr.mono (by first | decide | omega)) (ai (bv 0) (ai (bv 3) (ai (bv 4) af rfl) rfl) rfl)) (ai (bv 5) af rfl) rfl))))))),?_⟩
  kas_types;lcg_off;refine dU (SqL.of hx) (bZ (j:=0) (v:=.int x0) rfl) ?_;lcg_off;refine kr hp cO hok.2.1 (fun e c x he hc=>?_);lcg_off;refine dU (SqL.of hx) (bZ (j:=1) (v:=.int x1) rfl) ?_;lcg_off;refine kr hp cO hok.2.1 (fun e2 c2 x2 he2 yy=>?_);lcg_off;refine yf es hp cO nd (by have:=hok.2.2;omega) tok (fun ys gs l H1 Iz Bm s1 t1 hl UB=>?_);obtain rfl:gs = fs:=qx (Iz.trans pm.symm) Bm rise;obtain ⟨_,hT⟩:=tok.tbl;have n1:=s1.toN hT;have hR1:=hR.sameN n1;have hfl:=pm.length_eq;have hz:=hok.2.2;have hfi:(gs.filter (mQ e.1 e2.1)).length <= gs.length:=List.length_filter_le _ _;clear hR hp cO hc yy tok hx;obtain ⟨L,l1,l2,l3⟩:=bR UB;have yt:ys.length = gs.length:=by rw [<- l1,<- l2,List.length_map,List.length_map]
  lcg_off;refine LC (xs:=ys) (fun i us F=>Same H1 F/\Reps F (((gs.take i).filter (mQ e.1 e2.1)).map aC) us/\us.length <= i) (by rw [yt,sizeLine_eq];omega) ⟨Same.refl _,by simp only [List.take_zero,List.filter_nil,List.map_nil,Reps],Nat.le_refl _⟩ (fun i us F h=>⟨SqL.of (h.1 _ _ hl),h.2.2⟩) (fun i v us F hv h=>?_) (fun us Pz F F1 h Ul sF hF=>?_)
  ·obtain ⟨f1,f2,f3⟩:=h;rw [<- l2,List.getElem?_map] at hv;obtain ⟨te,qK,rfl⟩:=Option.map_eq_some_iff.mp hv;have Aq:gs[i]? = some te.1:=by rw [<- l1,List.getElem?_map,qK];rfl
   obtain ⟨kQ,vp⟩:=List.getElem?_eq_some_iff.mp Aq;have iY:=(l3 te (List.mem_of_getElem? qK)).same f1;obtain ⟨c,x,ec,hc,hx⟩:=cG iY;rw [ec] at iY;rw [ec];have pW:(gs.take (i + 1)).filter (mQ e.1 e2.1) = (gs.take i).filter (mQ e.1 e2.1) ++ if mQ e.1 e2.1 te.1 = true then [te.1] else []:=by rw [List.take_succ_eq_append_getElem kQ,vp,qS]
   have yes:mQ e.1 e2.1 te.1 = true->Same H1 F/\Reps F (((gs.take (i + 1)).filter (mQ e.1 e2.1)).map aC) (us ++ [.ref c])/\(us ++ [V.ref c]).length <= i + 1:=fun hy=>by
    refine ⟨f1,?_,by rw [List.length_append];simp;omega⟩;rw [pW,if_pos hy,List.map_append];exact Reps.snoc f2 iY
   have no:mQ e.1 e2.1 te.1 = false->Same H1 F/\Reps F (((gs.take (i + 1)).filter (mQ e.1 e2.1)).map aC) us/\us.length <= i + 1:=fun hn=>by
    refine ⟨f1,?_,by omega⟩;rw [pW,if_neg (by rw [hn];simp),List.append_nil];exact f2
   lcg_off;refine fW (fun h0=>?_) (fun h0=>?_)
   ·lcg_off;refine GK (fun h1=>?_) (fun h1=>?_)
    ·lcg_off;exact yes ((kC h0).trans h1)
    ·exact no ((kC h0).trans h1)
   ·refine ⟨_,rfl,?_⟩;rw [if_neg (by simp)];exact no (CF h0)
  obtain ⟨f1,f2,_⟩:=h;rw [yt,List.take_length] at f2;have s2:Same H1 F1:=Same.tr sF f1;obtain ⟨sv,pu,zs,r1,r2,r3,r4⟩:=hR1.same s2;lcg_off;refine vN e2.1 gs r1 r3 r4 (by omega) (fun l2 G ws pX sG hG hws=>?_)
  lcg_off;exact mi _ (.inr hG) hws (sG _ _ hF) ((f2.same sF).same sG) (by omega) (fun H4 s4=>q H4 (s1.trans (.of (Same.tr s4 (Same.tr sG s2)))) (t1.same (Same.tr s4 (Same.tr sG s2))))
theorem DW {px:Addr} {x0 x1:Int} {xr:List V} (hR:RunAt H r fs) (hp:ListAt H p es) (pm:fs.Perm es) (rise:dR fs) (nd:(es.map gT).Nodup) (hok:su es) (hx:H px = some (.lst (.int x0 :: .int x1 :: xr))) (tok:As H) (q:∀ H1,SameB kU H H1->As H1->Q (.bl true) H1):F' K [.ref r,.ref p,.ref px] H Q E:=⟨r,p,px,es,fs,x0,x1,xr,rfl,hR,hp,pm,rise,nd,hok,hx,tok,q⟩
end
section
structure LB (K:W.Frag) (a p pr ra rb:Addr) (ns:List Int) (es fs:List Ent) (H:Hp):Prop where
 t1:As H
 t2:cf H
 sq:SqL K H a (ns.map V.int)
 la:ListAt H p es
 lr:H pr = some (.lst [.ref ra,.ref rb])
 r1:RunAt H ra fs
 r2:RunAt H rb fs
theorem LB.n (h:LB K a p pr ra rb ns es fs H) (s:SameN H H') (t1:As H') (t2:cf H'):LB K a p pr ra rb ns es fs H':=⟨t1,t2,SqL.sameN h.sq s,h.la.sameN s,s _ _ h.lr (fun _ z=>by cases z),h.r1.sameN s,h.r2.sameN s⟩
theorem LB.same (h:LB K a p pr ra rb ns es fs H) (s:Same H H'):LB K a p pr ra rb ns es fs H':=h.n (.of s) (h.t1.same s) (h.t2.same s)
theorem LB.b1 (h:LB K a p pr ra rb ns es fs H) (s:SameB kU H H') (t:As H'):LB K a p pr ra rb ns es fs H'/\SameN H H':=by
 obtain ⟨_,hT⟩:=h.t1.tbl;exact ⟨h.n (s.toN hT) t (h.t2.sameB s (by decide) h.t1.tbl),s.toN hT⟩
theorem LB.b2 (h:LB K a p pr ra rb ns es fs H) (s:SameB bG H H') (t:cf H'):LB K a p pr ra rb ns es fs H'/\SameN H H':=by
 obtain ⟨_,hT⟩:=h.t2.tbl;exact ⟨h.n (s.toN hT) (h.t1.sameB s (by decide) h.t2.tbl) t,s.toN hT⟩
theorem LB.run {j:Nat} (hv:([.ref ra,.ref rb]:List V)[j]? = some v):∃ r,v = .ref r/\∀ H,LB K a p pr ra rb ns es fs H->RunAt H r fs:=by
 have hm:=List.mem_of_getElem? hv;simp only [List.mem_cons,List.not_mem_nil,or_false] at hm
 rcases hm with rfl | rfl
 ·exact ⟨ra,rfl,fun _ h=>h.r1⟩
 ·exact ⟨rb,rfl,fun _ h=>h.r2⟩
def xY (K:W.Frag):Sp:=fun vs H Q _=>∃ (a:Addr) (ns:List Int),vs = [.ref a]/\SqL K H a (ns.map V.int)/\ns.length <= 63/\As H/\cf H/\∀ H',Q (.bl true) H'
theorem fb:aq ["_law_script","_law_many","_law_entries","_law_first","_law_text","_law_runs","_law_k","_law_xs","_law_run"] ["_law_script"] (ae nO):=⟨rfl,rfl,rfl,by decide +kernel,rfl,by decide +kernel,by decide +kernel⟩
theorem IW (T:Txt K mg) (j6:∀ p ∈ tabs,base.BuiltinsAt mg p) (kIn:K.In base) (N:Fn K mg "law" nO ["_law_script"] f fd):FnOk P w K mg base cy (15) f fd ["_law_script"] (xY K):=by
 obtain ⟨_,_,jd⟩:=T.f__law_many_by;have pH:=mK (P:=P) (w:=w) (base:=base) T jd;obtain ⟨_,_,gG⟩:=T.f__law_entries_by;have kP:=jZ (P:=P) (w:=w) (base:=base) T gG;obtain ⟨_,_,vR⟩:=T.f_run_of;have Dx:=zt (P:=P) (w:=w) (base:=base) T j6 kIn vR;obtain ⟨_,_,j9⟩:=T.f_run_text;have pF:=uF (P:=P) (w:=w) (base:=base) T j9;obtain ⟨_,_,bz⟩:=T.f__law_cell_at;have bX:=mL (P:=P) (w:=w) (base:=base) T bz;obtain ⟨_,_,ph⟩:=T.f_read_run;have xK:=uG (P:=P) (w:=w) (base:=base) T j6 kIn ph;obtain ⟨_,_,bJ⟩:=T.f__law_stream;have dz:=fR (P:=P) (w:=w) (base:=base) T bJ;obtain ⟨_,_,vU⟩:=T.f_is_run;have DA:=zw (P:=P) (w:=w) (base:=base) T j6 kIn vU;obtain ⟨_,_,cM⟩:=T.f__law_all_same;have fq:=gZ (P:=P) (w:=w) (base:=base) T cM;obtain ⟨_,_,je⟩:=T.f__law_answers;have pI:=mM (P:=P) (w:=w) (base:=base) T j6 kIn je;obtain ⟨_,_,_,cL,dY,dZ⟩:=T.c__law_in_order;have fo:=gY (P:=P) (w:=w) (base:=base) T j6 cL dY dZ kIn;obtain ⟨_,_,gj⟩:=T.f_may_have;have kb:=lX (P:=P) (w:=w) (base:=base) T j6 kIn gj;obtain ⟨_,_,ie⟩:=T.f__law_stretched;have lU:=ky (P:=P) (w:=w) (base:=base) T j6 kIn ie;refine N.fu.okB fb (fun vs H Q E h=>?_) (fun bq A outer s H vs Q E hr h=>?_)
 ·obtain ⟨a,ns,rfl,_⟩:=h
  rfl
 ·obtain ⟨a,ns,rfl,hS,hn,ht,Kb,k⟩:=h;refine ⟨_,(ag (av (i:=1) fb.nd rfl (by first | exact Or.inl rfl | exact Or.inr rfl) (bF jd pH (hr.mono (by first | decide | omega)) (ai (bF bz bX (hr.mono (by first | decide | omega)) (ai (bv 0) (ai b_int af rfl) rfl)) af rfl)))
  (ag (aL (ax (ck (aH hr)) (az aM (bF bz bX (hr.mono (by first | decide | omega)) (ai (bv 0) (ai b_int af rfl) rfl)) b_int) b_int (au _))
   (ah (av (i:=1) fb.nd rfl (by first | exact Or.inl rfl | exact Or.inr rfl) (az aW b_int (az aM (az bj (bF bz bX (hr.mono (by first | decide | omega)) (ai (bv 0) (ai b_int af rfl) rfl)) b_int) b_int))))
   aw)
  (ag (av (i:=2) fb.nd rfl (by first | exact Or.inl rfl | exact Or.inr rfl) (bF gG kP (hr.mono (by first | decide | omega)) (ai (bF bz bX (hr.mono (by first | decide | omega)) (ai (bv 0) (ai b_int af rfl) rfl)) (ai (bv 1) af rfl) rfl)))
  (ag (av (i:=3) fb.nd rfl (by first | exact Or.inl rfl | exact Or.inr rfl) (bF vR Dx (hr.mono (by first | decide | omega)) (ai (JV JP T.b_list (by kernel_rfl) (ai (bv 2) af rfl)) af rfl)))
  (ag (av (i:=4) fb.nd rfl (by first | exact Or.inl rfl | exact Or.inr rfl) (bF j9 pF (hr.mono (by first | decide | omega)) (ai (bv 3) af rfl)))
  (ag (av (i:=5) fb.nd rfl (by first | exact Or.inl rfl | exact Or.inr rfl) (fw (ai (bv 3) (ai (bF ph xK (hr.mono (by first | decide | omega)) (ai (bv 4) af rfl)) af rfl) rfl)))
  (ag (aL (ax (ck (aH hr)) (az aM (bF bz bX (hr.mono (by first | decide | omega)) (ai (bv 0) (ai b_int af rfl) rfl)) b_int) b_int (au _))
   (ah (av (i:=5) fb.nd rfl (by first | exact Or.inl rfl | exact Or.inr rfl) (fw (ai (aG ak (bv 5) b_int (fun _ _=>rfl)) (ai (aG ak (bv 5) b_int (fun _ _=>rfl)) af rfl) rfl))))
   aw)
  (ag (fi PassesOwn.never rfl (vM T.b_range (ai b_int af rfl)) (dD (i:=6) fb.nd rfl (by first | exact Or.inl rfl | exact Or.inr rfl))
   (ag (av (i:=7) fb.nd rfl (by first | exact Or.inl rfl | exact Or.inr rfl) (bF bJ dz (hr.mono (by first | decide | omega)) (ai (az aW (bF bz bX (hr.mono (by first | decide | omega)) (ai (bv 0) (ai b_int af rfl) rfl)) (az ft b_int (bF bz bX (hr.mono (by first | decide | omega)) (ai (bv 0) (ai (az aW b_int (bv 6)) af rfl) rfl)))) (ai b_int af rfl) rfl)))
  (ah (fi PassesOwn.never rfl (eM (bv 5)) (dD (i:=8) fb.nd rfl (by first | exact Or.inl rfl | exact Or.inr rfl))
   (ah (aL (eF (dt (bU (bh (bF je pI (hr.mono (by first | decide | omega)) (ai (bv 8) (ai (bv 2) (ai (cn eO (bv 7) (bY (az aM (bv 6) b_int)) cA) af rfl) rfl) rfl)) (fun _=>rfl))) (dn (eF (fh (ax (ck (aH hr)) (az aM (bv 6) b_int) b_int (au _)) (d6 (bU (bh (bF ie lU (hr.mono (by first | decide | omega)) (ai (bv 8) (ai (bv 2) (ai (bv 7) af rfl) rfl) rfl)) (fun _=>rfl)))))))))
   (ah (aj iJ))
   aw))))))
  (ag (fi PassesOwn.never rfl (eM (bv 5)) (dD (i:=8) fb.nd rfl (by first | exact Or.inl rfl | exact Or.inr rfl))
   (ah (aL (eF (dt (ax Cj (bF vU DA (hr.mono (by first | decide | omega)) (ai (bv 8) af rfl)) iJ (au _)) (dt (ax (hU (aH hr)) (bF j9 pF (hr.mono (by first | decide | omega)) (ai (bv 8) af rfl)) (bv 4) (au _)) (dn (bU (bh (bF cM fq (hr.mono (by first | decide | omega)) (ai (aG ak (bv 8) b_int (fun _ _=>rfl)) (ai (bF cL fo (hr.mono (by first | decide | omega)) (ai (bv 2) af rfl)) af rfl) rfl)) (fun _=>rfl)))))))
   (ah (aj iJ))
   aw)))
  (ah (aj (eW (ck (aH hr)) (j7 (x:="_law_entry") (ix:=[5]) (fv:=["_law_runs"]) (osc:=ae nO) rfl ⟨rfl,by decide +kernel,by decide +kernel,by rfl,by decide +kernel,by decide +kernel,by decide +kernel⟩ (by rfl) (eM (bv 2)) (fun _ _ _ _=>(sX (ax Cj (bF gj kb (hr.mono (by first | decide | omega)) (ai (aG (cR (K:=K) rfl) (aG (cR (K:=K) rfl) (bv 1) b_int (fun _ _=>rfl)) b_int (fun _ _=>rfl)) (ai (aG (cR (K:=K) rfl) (bv 0) b_int (fun _ _=>rfl)) af rfl) rfl)) iJ (au _)))) (fun _ _ _ _=>(bv 0))) (fw af) (au _))))))))))))),?_⟩
  kas_types;lcg_off;refine gh (k:=1) hS rfl ?_;lcg_off;refine xn (fun m m0 m1=>?_);lcg_off;refine gh (k:=1) hS rfl ?_;lcg_off;refine oA (fun σ' G=>∃ m:Int,σ' = [some (.ref a),some (.int m),none,none,none,none,none,none,none]/\G = H/\1 <= m/\m <= 199) (fun σ' G h=>?_) (fun _ nx hx=>?_) (fun _ nx hx=>?_)
  ·clear m0 m1 m;obtain ⟨m,rfl,rfl,m0,m1⟩:=h;lcg_off;refine gh (k:=0) hS rfl ?_;lcg_off;refine p6 m0 m1 (fun p H1 xs es yx s1 hp cO nd hl GS CK=>?_);lcg_off;rename_i l H2 Fq s2 pX;have Ke:Same G H2:=Same.tr s2 s1;refine za es pX (cO.same s2) nd (by omega) (Kb.same Ke) (fun r t pu xs' fs H3 pm rise s3 Ka Zv Zu Zw Zl=>?_);have hfl:=pm.length_eq;have YW:su es:=⟨CK,GS,hl⟩;have Kf:su fs:=⟨fun e he=>CK e (pm.mem_iff.mp he),by omega,by omega⟩;have RA:RunAt H3 r fs:=⟨t,pu,xs',Zv,Zu,Zw,Zl⟩;obtain ⟨_,hT⟩:=(Kb.same Ke).tbl;have n3:=s3.toN hT;have Ze:=(ht.same Ke).sameB s3 (by decide) (Kb.same Ke).tbl;have Zs:=SqL.sameN (hS.same Ke) n3;have Z3:=ListAt.sameN ⟨xs,s2 _ _ hp,cO.same s2⟩ n3;clear hS ht Kb hp cO pX Ke s1 s2 s3 hT n3 Zv Zu Zw Zl yx Fq;lcg_off;refine uo fs RA Kf (fun H4 s4=>?_);lcg_off;refine Bj fs Kf rise (Ka.same s4) (fun r5 H5 s5 NH Z0=>?_);obtain ⟨_,hT⟩:=(Ka.same s4).tbl;have n5:=s5.toN hT;have Zd:=(Ze.same s4).sameB s5 (by decide) (Ka.same s4).tbl;lcg_off;rename_i pr H6 hpr s6 h6;have B:LB K a p pr r r5 ns es fs H6:=⟨Zd.same s6,NH.same s6,(SqL.sameN (Zs.same s4) n5).same s6,((Z3.same s4).sameN n5).same s6,h6,((RA.same s4).sameN n5).same s6,Z0.same s6⟩;clear Zd NH Zs Z3 h6 RA Z0 hT n5 s5 Ze Ka hpr s4 s6;refine gh (k:=2) B.sq rfl ?_;lcg_off;refine oA (fun σ' G=>∃ pr ra rb,σ' = [some (.ref a),some (.int m),some (.ref p),some (.ref r),some (.str (gO fs)),some (.ref pr),none,none,none]/\LB K a p pr ra rb ns es fs G) (fun σ' G h=>?_) (fun _ nx hx=>?_) (fun _ nx hx=>?_)
   ·clear B pr r5;obtain ⟨pr,ra,rb,rfl,B⟩:=h;lcg_off;refine forR (fun i σ H'=>∃ (o6 o7 o8:Option V),σ = [some (.ref a),some (.int m),some (.ref p),some (.ref r),some (.str (gO fs)),some (.ref pr),o6,o7,o8]/\LB K a p pr ra rb ns es fs H')
     ⟨none,none,none,rfl,B⟩ (fun i σ H' hi h=>?_) (fun σ H' h=>?_)
    ·clear B;obtain ⟨o6,o7,o8,rfl,B⟩:=h;have hi6:i < 6:=hi;lcg_off;refine gh (k:=2) B.sq rfl ?_;lcg_off;refine gh (k:=3 + i) B.sq (by omega) ?_;lcg_off;refine jP (by omega) (by omega) (fun px Hs ms Jt ss Kj Zk hm0=>?_);have Kk:=ss _ _ B.lr;lcg_off;refine forL (xs:=[.ref ra,.ref rb]) (fun j σ H'=>∃ (o8:Option V),σ = [some (.ref a),some (.int m),some (.ref p),some (.ref r),some (.str (gO fs)),some (.ref pr),some (.int (0 + (i:Int))),some (.ref px),o8]/\LB K a p pr ra rb ns es fs H'/\H' px = some (.lst (ms.map V.int))) ⟨o8,rfl,B.same ss,Kj⟩ (fun j σ H' h=>by obtain ⟨_,_,h,_⟩:=h;exact SqL.of h.lr) (fun j v σ H' hj hv h=>?_) (fun σ H' h=>?_)
     ·clear B Kj ss Kk;obtain ⟨o8,rfl,B,Kj⟩:=h;obtain ⟨r',rfl,RA⟩:=LB.run (K:=K) (a:=a) (p:=p) (pr:=pr) (ns:=ns) (es:=es) (fs:=fs) hv;lcg_off;refine wQ (SqL.of Kj) (fun q1 Hq hq1 YM hq=>?_);rw [show ((0 + (i:Int)) % 4) = ((i % 4:Nat):Int) by omega,Ad _ (by rw [List.length_map];omega),<- List.map_drop] at hq;have Zn:5 <= (ms.drop (i % 4)).length:=by rw [List.length_drop,Zk];omega
      have DI:∀ n ∈ ms.drop (i % 4),0 <= n:=fun n hn=>hm0 n (List.mem_of_mem_drop hn)
      obtain ⟨x0,x1,x2,x3,xr,ex⟩:∃ x0 x1 x2 x3 xr,ms.drop (i % 4) = x0 :: x1 :: x2 :: x3 :: xr:=by
       match ms.drop (i % 4),Zn with
       | x0 :: x1 :: x2 :: x3 :: xr,_=>exact ⟨x0,x1,x2,x3,xr,rfl⟩
      obtain ⟨y0,y1,yr,ey⟩:∃ y0 y1 yr,ms = y0 :: y1 :: yr:=by
       match ms,Zk with
       | y0 :: y1 :: yr,_=>exact ⟨y0,y1,yr,rfl⟩
      rw [ex] at hq DI;have Zj:=YM _ _ Kj;have Bq:=B.same YM;lcg_off;refine FO (RA _ Bq) Bq.la pm nd YW hq (DI x2 (by simp)) Bq.t2 (fun H7 s7 t7=>?_);obtain ⟨B7,n7⟩:=Bq.b2 s7 t7;have Ut:=n7 _ _ Zj (fun _ z=>by cases z);clear Bq B Kj Zj hq DI Zn;lcg_off;refine aI (fun h3=>?_) (fun h3=>?_)
      ·lcg_off;refine DW (RA _ B7) B7.la pm rise nd YW (x0:=y0) (x1:=y1) (xr:=yr.map V.int) (by rw [Ut,ey];rfl) B7.t1 (fun H8 s8 t8=>?_);obtain ⟨B8,n8⟩:=B7.b1 s8 t8;lcg_off;exact ⟨_,rfl,B8,n8 _ _ Ut (fun _ z=>by cases z)⟩
      ·lcg_off;exact ⟨_,rfl,B7,Ut⟩
     ·obtain ⟨o8,rfl,B,_⟩:=h;lcg_off;exact ⟨_,_,_,rfl,B⟩
    ·clear B;obtain ⟨o6,o7,o8,rfl,B⟩:=h;have Kk:=B.lr;lcg_off;refine forL (xs:=[.ref ra,.ref rb]) (fun j σ H'=>∃ (o8:Option V),σ = [some (.ref a),some (.int m),some (.ref p),some (.ref r),some (.str (gO fs)),some (.ref pr),o6,o7,o8]/\LB K a p pr ra rb ns es fs H') ⟨o8,rfl,B⟩ (fun j σ H' h=>by obtain ⟨_,_,h⟩:=h;exact SqL.of h.lr) (fun j v σ H' hj hv h=>?_) (fun σ H' h=>?_)
     ·clear B Kk;obtain ⟨o8,rfl,B⟩:=h;obtain ⟨r',rfl,RA⟩:=LB.run (K:=K) (a:=a) (p:=p) (pr:=pr) (ns:=ns) (es:=es) (fs:=fs) hv;obtain ⟨sv,pu,xs,h1,h2,h3,h4⟩:=RA _ B;lcg_off;refine zN (uq fs) (Ed h1 h2 h3 h4) (Hu Kf.1) (Eb (by omega)) B.t2 (fun H7 s7 t7=>?_);obtain ⟨B7,n7⟩:=B.b2 s7 t7;rw [HH rise Kf.1 Kf.2.1];clear h1 h2 h3 h4;lcg_off;refine uo fs (RA _ B7) Kf (fun H8 s8=>?_);have B8:=B7.same s8;lcg_off;refine fV (fun h=>absurd rfl h) (fun _=>?_);obtain ⟨sv,pu,xs,h1,h2,h3,h4⟩:=RA _ B8;obtain ⟨ws,hp,cO⟩:=B8.la;lcg_off;refine yf es hp cO nd (by omega) B8.t1 (fun ys gs l H9 Iz Bm s9 t9 hl9 UB=>?_);obtain rfl:gs = fs:=qx (Iz.trans pm.symm) Bm rise;obtain ⟨B9,n9⟩:=B8.b1 s9 t9;lcg_off;refine mi gs (.inl (n9 _ _ h3 (fun _ z=>by cases z))) (Reps.sameN n9 h4) hl9 UB (by omega) (fun Ha sa=>?_);lcg_off;exact ⟨_,rfl,B9.same sa⟩
     ·clear B Kk;obtain ⟨o8,rfl,B⟩:=h;obtain ⟨xs,hp,cO⟩:=B.la;obtain ⟨L,l1,l2,l3⟩:=bR cO;have yt:xs.length = es.length:=by rw [<- l1,<- l2,List.length_map,List.length_map]
      lcg_off;refine LC (xs:=xs) (fun i us F=>LB K a p pr ra rb ns es fs F/\SameN H' F/\us = []) (by rw [yt,sizeLine_eq];omega) ⟨B,SameN.refl,rfl⟩ (fun i us F h=>⟨SqL.of (h.2.1 _ _ hp (fun _ z=>by cases z)),by rw [h.2.2];exact Nat.zero_le _⟩) (fun i v us F hv h=>?_) (fun us Pz F F1 h Ul sF hF=>?_)
      ·obtain ⟨f1,f2,rfl⟩:=h;rw [<- l2,List.getElem?_map] at hv;obtain ⟨te,qK,rfl⟩:=Option.map_eq_some_iff.mp hv;have Aq:te.1 ∈ es:=by rw [<- l1];exact List.mem_map.mpr ⟨te,List.mem_of_getElem? qK,rfl⟩
       obtain ⟨c,x,ec,hc,hx⟩:=cG (l3 te (List.mem_of_getElem? qK));have hcF:=f2 _ _ hc (fun _ z=>by cases z)
       obtain ⟨sv,pu,zs,h1,h2,h3,h4⟩:=f1.r2;have Kk:=f1.lr;obtain ⟨b0,b1⟩:=Cv fs;rw [ec];lcg_off;refine yi h2 (x9 fs) b0 f1.t2 (fun F2 s2 t2=>?_)
       rw [b1 _ (pm.mem_iff.mpr Aq)];lcg_off;obtain ⟨B2,n2⟩:=f1.b2 s2 t2;exact ⟨B2,f2.trans n2,rfl⟩
      obtain ⟨f1,f2,rfl⟩:=h;lcg_off;rename_i pe Fe Zh se he;exact yD (se _ _ hF) he (k _)
   ·have Kk:=B.lr;lcg_off;rename_i pq Hq hpq sq hq;have Bq:=B.same sq;exact hx _ _ ⟨pq,r5,r,rfl,Bq.t1,Bq.t2,Bq.sq,Bq.la,hq,Bq.r2,Bq.r1⟩
   ·lcg_off;exact hx _ _ ⟨pr,r,r5,rfl,B⟩
  ·lcg_off;refine gh (k:=1) hS rfl ?_;lcg_off;exact hx _ _ ⟨_,rfl,rfl,by omega,by omega⟩
  ·lcg_off;exact hx _ _ ⟨m,rfl,rfl,m0,m1⟩
end
theorem all_mk {l : W.OpenLaw} {h : Heap} {fa f1 f2 f3 f4 f5 f6 f7 f8 f9 VU VT VS VR VQ VP VO VN VM VL VJ VI VH VG VF VE VD VC VB VA Vz Vy Vx Vw Vv Vu Vt Vs Vr Vq Vo Vn Vm Vl Vk Vj Vi Vh Vg Vf Ve Vd Vc Vb Va U9 U8 U7 U6 U5 U4 U3 U2 : Addr} (X : K.In h) (G : h.Ns mainGlobals mg) (Ko : mg "law" = some (.ref fa))
    {od1 an1:Option Addr} {sl1:Array (Option Value)} {oc1 kV1 dc1 EC ZS ct1:Value}
    {od2 an2:Option Addr} {Gp:Array (Option Value)} {oc2 kV2 dc2 Iz ZR ct2:Value}
    {od3 an3:Option Addr} {sl3:Array (Option Value)} {oc3 kV3 dc3 wb ZQ ct3:Value}
    {od4 an4:Option Addr} {sl4:Array (Option Value)} {oc4 kV4 dc4 pm4 ZP ct4:Value}
    {od5 an5:Option Addr} {sl5:Array (Option Value)} {oc5 kV5 dc5 pm5 ZO ct5:Value}
    {od6 an6:Option Addr} {sl6:Array (Option Value)} {oc6 kV6 dc6 pm6 ZN ct6:Value}
    {od7 an7:Option Addr} {sl7:Array (Option Value)} {oc7 kV7 dc7 pm7 ZM ct7:Value}
    {od8 an8:Option Addr} {sl8:Array (Option Value)} {oc8 kV8 dc8 pm8 ZL ct8:Value}
    {od9 an9:Option Addr} {sl9:Array (Option Value)} {oc9 kV9 dc9 pm9 ZK ct9:Value}
    {RC YD:Option Addr} {Pr:Array (Option Value)} {SD T7 WO QB Nr XH:Value}
    {RB YC:Option Addr} {Pq:Array (Option Value)} {SA T6 WN QA Nq XG:Value}
    {Rz YB:Option Addr} {Pp:Array (Option Value)} {Sz T5 WM Qz Np XF:Value}
    {Ry YA:Option Addr} {Po:Array (Option Value)} {Sy T4 WL Qy Nn XE:Value}
    {Rx Yz:Option Addr} {Pn:Array (Option Value)} {Sx T3 WK Qx Nm XD:Value}
    {Rw Yy:Option Addr} {Pm:Array (Option Value)} {Sw T2 WJ Qw Nl XC:Value}
    {Rv Yx:Option Addr} {Pl:Array (Option Value)} {Sv T1 WI Qv Nk XB:Value}
    {Ru Yw:Option Addr} {Pk:Array (Option Value)} {Su TZ WH Qu Nj XA:Value}
    {Rt Yv:Option Addr} {Pj:Array (Option Value)} {Ss TY WG Qt Ni Xz:Value}
    {Rr Yu:Option Addr} {Ph:Array (Option Value)} {Sr TX WE Qs Nh Xy:Value}
    {Rq Yt:Option Addr} {Pg:Array (Option Value)} {Sq TV WD Qr Ng Xx:Value}
    {Rp Ys:Option Addr} {Pf:Array (Option Value)} {So TU WC Qq Xw:Value}
    {Ro Yr:Option Addr} {Pe:Array (Option Value)} {Sn TR WB Qp Nf Xv:Value}
    {Rn Yq:Option Addr} {Pd:Array (Option Value)} {Sm TQ WA Qo Nd Xu:Value}
    {Rm Yp:Option Addr} {Pc:Array (Option Value)} {Sl TN Wz Qn Nc Xt:Value}
    {Rl Yo:Option Addr} {Pb:Array (Option Value)} {Sk TM Wy Qm Nb Xs:Value}
    {Rk Yn:Option Addr} {Pa:Array (Option Value)} {Sj TL Wx Ql Na Xr:Value}
    {Rj Ym:Option Addr} {O':Array (Option Value)} {Si TK Ww Qk M' Xq:Value}
    {Ri Yl:Option Addr} {O9:Array (Option Value)} {Sh TH Wv Qj M9 Xp:Value}
    {Rh Yk:Option Addr} {O8:Array (Option Value)} {Sg TF Wu Qi M8 Xo:Value}
    {Rg Yj:Option Addr} {O7:Array (Option Value)} {Sf TC Wt Qh M7 Xn:Value}
    {Rf Yi:Option Addr} {O6:Array (Option Value)} {Se TB Ws Qg M6 Xm:Value}
    {Rc Yh:Option Addr} {O5:Array (Option Value)} {Sd Tz Wr Qf M5 Xl:Value}
    {Rb Yg:Option Addr} {O4:Array (Option Value)} {Sb Tx Wq Qe M4 Xk:Value}
    {Ra Yf:Option Addr} {O3:Array (Option Value)} {R' Tw Wo Qd M3 Xj:Value}
    {Q9 Ye:Option Addr} {O2:Array (Option Value)} {R9 Tv Wn Qc M1 Xi:Value}
    {Q8 Yd:Option Addr} {O1:Array (Option Value)} {R8 Tu Wm Qb M0 Xh:Value}
    {Q7 Yc:Option Addr} {O0:Array (Option Value)} {R7 Tt Wl Qa MZ Xg:Value}
    {Q6 Yb:Option Addr} {OZ:Array (Option Value)} {R6 Ts Wk P9 MY Xf:Value}
    {Q5 Ya:Option Addr} {OY:Array (Option Value)} {R5 Tr Wj P8 MX Xe:Value}
    {Q4 X':Option Addr} {OX:Array (Option Value)} {R0 Tq Wi P7 MW Xd:Value}
    {Q3 X9:Option Addr} {OW:Array (Option Value)} {RZ Tp Wh P6 MV Xc:Value}
    {Q2 X8:Option Addr} {OV:Array (Option Value)} {RY To Wg P5 MU Xb:Value}
    {Q1 X7:Option Addr} {OU:Array (Option Value)} {RX Tn Wf P4 MT Xa:Value}
    {Q0 X6:Option Addr} {OT:Array (Option Value)} {RW Tj We P2 MS W':Value}
    {QZ X5:Option Addr} {OS:Array (Option Value)} {RV Ti Wd P1 MR W9:Value}
    {QY X4:Option Addr} {OR:Array (Option Value)} {RU Th Wc P0 MQ W8:Value}
    {QX X3:Option Addr} {OQ:Array (Option Value)} {RT Tg Wb PZ MP W7:Value}
    {QW X2:Option Addr} {OP:Array (Option Value)} {RS Tf Wa PY MO W6:Value}
    {QV X1:Option Addr} {OO:Array (Option Value)} {RR Te V' PX MN W5:Value}
    {QU X0:Option Addr} {ON:Array (Option Value)} {RQ Td V9 PV MM W4:Value}
    {QT XZ:Option Addr} {OM:Array (Option Value)} {RP Tc V8 PU ML W3:Value}
    {QS XY:Option Addr} {OL:Array (Option Value)} {RO Tb V7 PR MK W2:Value}
    {QR XX:Option Addr} {OK:Array (Option Value)} {RN Ta V6 PQ MJ W0:Value}
    {QQ XW:Option Addr} {OJ:Array (Option Value)} {RM S9 V5 PN MI WZ:Value}
    {QP XU:Option Addr} {OI:Array (Option Value)} {RL S8 V4 PM MH WY:Value}
    {QO XT:Option Addr} {OH:Array (Option Value)} {RJ S7 V3 PL WX:Value}
    {QN XS:Option Addr} {OG:Array (Option Value)} {RI S6 V2 PJ MG WW:Value}
    {QM XR:Option Addr} {OF:Array (Option Value)} {RH S5 V1 PH MF WV:Value}
    {QL XQ:Option Addr} {OE:Array (Option Value)} {RG S0 V0 PF ME WU:Value}
    {QK XO:Option Addr} {OD:Array (Option Value)} {RF SY VZ PD MD WT:Value}
    {QJ XN:Option Addr} {OC:Array (Option Value)} {RE SX VY PC MC WS:Value}
    {QI XM:Option Addr} {OB:Array (Option Value)} {RD SV VX PB MB WR:Value}
    {Kb:Tok}
    {tk1:Tok}
    {tk2:Tok}
    {Ka:Tok}
    {tk4:Tok}
    {NH:Tok}
    {tk6:Tok}
    {tk7:Tok}
    {tk8:Tok}
    {tk9:Tok}
    {Ow:Tok}
    {Ov:Tok}
    {Ou:Tok}
    {Ot:Tok}
    {Oq:Tok}
    {Oo:Tok}
    {Om:Tok}
    {Ol:Tok}
    (a1:W.nsIn K mainGlobals "are_figures" = some (some (.ref f1))) (l1:K.lookup f1 = some ⟨oc1,od1,.func (W.fnOf "are_figures" "are_figures" (ar bI) (ao bI) (ae bI) .none kV1 dc1 EC an1 ZS ct1),sl1⟩) (c1:W.codeIn K ZS "are_figures" = true) (k1:W.keepIn K (.ref f1) = true)
    (a2:W.nsIn K mainGlobals "padded" = some (some (.ref f2))) (l2:K.lookup f2 = some ⟨oc2,od2,.func (W.fnOf "padded" "padded" (ar fL) (ao fL) (ae fL) .none kV2 dc2 Iz an2 ZR ct2),Gp⟩) (c2:W.codeIn K ZR "padded" = true) (k2:W.keepIn K (.ref f2) = true)
    (a3:W.nsIn K mainGlobals "read_padded" = some (some (.ref f3))) (l3:K.lookup f3 = some ⟨oc3,od3,.func (W.fnOf "read_padded" "read_padded" (ar cq) (ao cq) (ae cq) .none kV3 dc3 wb an3 ZQ ct3),sl3⟩) (c3:W.codeIn K ZQ "read_padded" = true) (k3:W.keepIn K (.ref f3) = true)
    (a4:W.nsIn K mainGlobals "read_figures" = some (some (.ref f4))) (l4:K.lookup f4 = some ⟨oc4,od4,.func (W.fnOf "read_figures" "read_figures" (ar bL) (ao bL) (ae bL) .none kV4 dc4 pm4 an4 ZP ct4),sl4⟩) (c4:W.codeIn K ZP "read_figures" = true) (k4:W.keepIn K (.ref f4) = true)
    (a5:W.nsIn K mainGlobals "is_plain_text" = some (some (.ref f5))) (l5:K.lookup f5 = some ⟨oc5,od5,.func (W.fnOf "is_plain_text" "is_plain_text" (ar bf) (ao bf) (ae bf) .none kV5 dc5 pm5 an5 ZO ct5),sl5⟩) (c5:W.codeIn K ZO "is_plain_text" = true) (k5:W.keepIn K (.ref f5) = true)
    (a6:W.nsIn K mainGlobals "is_key" = some (some (.ref f6))) (l6:K.lookup f6 = some ⟨oc6,od6,.func (W.fnOf "is_key" "is_key" (ar fO) (ao fO) (ae fO) .none kV6 dc6 pm6 an6 ZN ct6),sl6⟩) (c6:W.codeIn K ZN "is_key" = true) (k6:W.keepIn K (.ref f6) = true)
    (a7:W.nsIn K mainGlobals "is_value" = some (some (.ref f7))) (l7:K.lookup f7 = some ⟨oc7,od7,.func (W.fnOf "is_value" "is_value" (ar dH) (ao dH) (ae dH) .none kV7 dc7 pm7 an7 ZM ct7),sl7⟩) (c7:W.codeIn K ZM "is_value" = true) (k7:W.keepIn K (.ref f7) = true)
    (a8:W.nsIn K mainGlobals "is_whole_number" = some (some (.ref f8))) (l8:K.lookup f8 = some ⟨oc8,od8,.func (W.fnOf "is_whole_number" "is_whole_number" (ar aZ) (ao aZ) (ae aZ) .none kV8 dc8 pm8 an8 ZL ct8),sl8⟩) (c8:W.codeIn K ZL "is_whole_number" = true) (k8:W.keepIn K (.ref f8) = true)
    (a9:W.nsIn K mainGlobals "is_stamp" = some (some (.ref f9))) (l9:K.lookup f9 = some ⟨oc9,od9,.func (W.fnOf "is_stamp" "is_stamp" (ar dI) (ao dI) (ae dI) .none kV9 dc9 pm9 an9 ZK ct9),sl9⟩) (c9:W.codeIn K ZK "is_stamp" = true) (k9:W.keepIn K (.ref f9) = true)
    (a10:W.nsIn K mainGlobals "is_entry" = some (some (.ref VU))) (l10:K.lookup VU = some ⟨SD,RC,.func (W.fnOf "is_entry" "is_entry" (ar dJ) (ao dJ) (ae dJ) .none T7 WO QB YD Nr XH),Pr⟩) (c10:W.codeIn K Nr "is_entry" = true) (k10:W.keepIn K (.ref VU) = true)
    (a11:W.nsIn K mainGlobals "rank_of" = some (some (.ref VT))) (l11:K.lookup VT = some ⟨SA,RB,.func (W.fnOf "rank_of" "rank_of" (ar ei) (ao ei) (ae ei) .none T6 WN QA YC Nq XG),Pq⟩) (c11:W.codeIn K Nq "rank_of" = true) (k11:W.keepIn K (.ref VT) = true)
    (a12:W.nsIn K mainGlobals "comes_ahead" = some (some (.ref VS))) (l12:K.lookup VS = some ⟨Sz,Rz,.func (W.fnOf "comes_ahead" "comes_ahead" (ar cu) (ao cu) (ae cu) .none T5 WM Qz YB Np XF),Pp⟩) (c12:W.codeIn K Np "comes_ahead" = true) (k12:W.keepIn K (.ref VS) = true)
    (a13:W.nsIn K mainGlobals "in_order" = some (some (.ref VR))) (l13:K.lookup VR = some ⟨Sy,Ry,.func (W.fnOf "in_order" "in_order" (ar dM) (ao dM) (ae dM) .none T4 WL Qy YA Nn XE),Po⟩) (c13:W.codeIn K Nn "in_order" = true) (k13:W.keepIn K (.ref VR) = true)
    (a14:W.nsIn K mainGlobals "stretch" = some (some (.ref VQ))) (l14:K.lookup VQ = some ⟨Sx,Rx,.func (W.fnOf "stretch" "stretch" (ar dQ) (ao dQ) (ae dQ) .none T3 WK Qx Yz Nm XD),Pn⟩) (c14:W.codeIn K Nm "stretch" = true) (k14:W.keepIn K (.ref VQ) = true)
    (a15:W.nsIn K mainGlobals "newest" = some (some (.ref VP))) (l15:K.lookup VP = some ⟨Sw,Rw,.func (W.fnOf "newest" "newest" (ar fM) (ao fM) (ae fM) .none T2 WJ Qw Yy Nl XC),Pm⟩) (c15:W.codeIn K Nl "newest" = true) (k15:W.keepIn K (.ref VP) = true)
    (a16:W.nsIn K mainGlobals "text_of_rows" = some (some (.ref VO))) (l16:K.lookup VO = some ⟨Sv,Rv,.func (W.fnOf "text_of_rows" "text_of_rows" (ar br) (ao br) (ae br) .none T1 WI Qv Yx Nk XB),Pl⟩) (c16:W.codeIn K Nk "text_of_rows" = true) (k16:W.keepIn K (.ref VO) = true)
    (a17:W.nsIn K mainGlobals "rows_of" = some (some (.ref VN))) (l17:K.lookup VN = some ⟨Su,Ru,.func (W.fnOf "rows_of" "rows_of" (ar eh) (ao eh) (ae eh) .none TZ WH Qu Yw Nj XA),Pk⟩) (c17:W.codeIn K Nj "rows_of" = true) (k17:W.keepIn K (.ref VN) = true)
    (a18:W.nsIn K mainGlobals "row_at" = some (some (.ref VM))) (l18:K.lookup VM = some ⟨Ss,Rt,.func (W.fnOf "row_at" "row_at" (ar fK) (ao fK) (ae fK) .none TY WG Qt Yv Ni Xz),Pj⟩) (c18:W.codeIn K Ni "row_at" = true) (k18:W.keepIn K (.ref VM) = true)
    (a19:W.nsIn K mainGlobals "key_and_rest" = some (some (.ref VL))) (l19:K.lookup VL = some ⟨Sr,Rr,.func (W.fnOf "key_and_rest" "key_and_rest" (ar bN) (ao bN) (ae bN) .none TX WE Qs Yu Nh Xy),Ph⟩) (c19:W.codeIn K Nh "key_and_rest" = true) (k19:W.keepIn K (.ref VL) = true)
    (a20:W.nsIn K mainGlobals "read_key_and_rest" = some (some (.ref VJ))) (l20:K.lookup VJ = some ⟨Sq,Rq,.func (W.fnOf "read_key_and_rest" "read_key_and_rest" (ar aR) (ao aR) (ae aR) .none TV WD Qr Yt Ng Xx),Pg⟩) (c20:W.codeIn K Ng "read_key_and_rest" = true) (k20:W.keepIn K (.ref VJ) = true)
    {Dg:Addr}
    (ZZ:W.nsIn K mainGlobals "probe" = some (some (.ref VI))) (l21:K.lookup VI = some ⟨So,Rp,.func (W.fnOf "probe" "probe" (ar fB) (ao fB) (ae fB) .none TU WC Qq Ys (.ref Dg) Xw),Pf⟩) (c21:W.codeIn K (.ref Dg) "probe" = true) (k21:W.keepIn K (.ref VI) = true)
    (MA:W.codeHdIn K Dg bG = true)
    (a22:W.nsIn K mainGlobals "places_of" = some (some (.ref VH))) (l22:K.lookup VH = some ⟨Sn,Ro,.func (W.fnOf "places_of" "places_of" (ar cD) (ao cD) (ae cD) .none TR WB Qp Yr Nf Xv),Pe⟩) (c22:W.codeIn K Nf "places_of" = true) (k22:W.keepIn K (.ref VH) = true)
    (a23:W.nsIn K mainGlobals "sieve_of" = some (some (.ref VG))) (l23:K.lookup VG = some ⟨Sm,Rn,.func (W.fnOf "sieve_of" "sieve_of" (ar dF) (ao dF) (ae dF) .none TQ WA Qo Yq Nd Xu),Pd⟩) (c23:W.codeIn K Nd "sieve_of" = true) (k23:W.keepIn K (.ref VG) = true)
    (a24:W.nsIn K mainGlobals "may_have" = some (some (.ref VF))) (l24:K.lookup VF = some ⟨Sl,Rm,.func (W.fnOf "may_have" "may_have" (ar cY) (ao cY) (ae cY) .none TN Wz Qn Yp Nc Xt),Pc⟩) (c24:W.codeIn K Nc "may_have" = true) (k24:W.keepIn K (.ref VF) = true)
    (a25:W.nsIn K mainGlobals "signs_of" = some (some (.ref VE))) (l25:K.lookup VE = some ⟨Sk,Rl,.func (W.fnOf "signs_of" "signs_of" (ar dE) (ao dE) (ae dE) .none TM Wy Qm Yo Nb Xs),Pb⟩) (c25:W.codeIn K Nb "signs_of" = true) (k25:W.keepIn K (.ref VE) = true)
    (a26:W.nsIn K mainGlobals "bits_of" = some (some (.ref VD))) (l26:K.lookup VD = some ⟨Sj,Rk,.func (W.fnOf "bits_of" "bits_of" (ar er) (ao er) (ae er) .none TL Wx Ql Yn Na Xr),Pa⟩) (c26:W.codeIn K Na "bits_of" = true) (k26:W.keepIn K (.ref VD) = true)
    (a27:W.nsIn K mainGlobals "sieve_text" = some (some (.ref VC))) (l27:K.lookup VC = some ⟨Si,Rj,.func (W.fnOf "sieve_text" "sieve_text" (ar cE) (ao cE) (ae cE) .none TK Ww Qk Ym M' Xq),O'⟩) (c27:W.codeIn K M' "sieve_text" = true) (k27:W.keepIn K (.ref VC) = true)
    (a28:W.nsIn K mainGlobals "read_size" = some (some (.ref VB))) (l28:K.lookup VB = some ⟨Sh,Ri,.func (W.fnOf "read_size" "read_size" (ar cW) (ao cW) (ae cW) .none TH Wv Qj Yl M9 Xp),O9⟩) (c28:W.codeIn K M9 "read_size" = true) (k28:W.keepIn K (.ref VB) = true)
    (a29:W.nsIn K mainGlobals "read_sieve" = some (some (.ref VA))) (l29:K.lookup VA = some ⟨Sg,Rh,.func (W.fnOf "read_sieve" "read_sieve" (ar cj) (ao cj) (ae cj) .none TF Wu Qi Yk M8 Xo),O8⟩) (c29:W.codeIn K M8 "read_sieve" = true) (k29:W.keepIn K (.ref VA) = true)
    (a30:W.nsIn K mainGlobals "sieve_of_entries" = some (some (.ref Vz))) (l30:K.lookup Vz = some ⟨Sf,Rg,.func (W.fnOf "sieve_of_entries" "sieve_of_entries" (ar aP) (ao aP) (ae aP) .none TC Wt Qh Yj M7 Xn),O7⟩) (c30:W.codeIn K M7 "sieve_of_entries" = true) (k30:W.keepIn K (.ref Vz) = true)
    (a31:W.nsIn K mainGlobals "run_of" = some (some (.ref Vy))) (l31:K.lookup Vy = some ⟨Se,Rf,.func (W.fnOf "run_of" "run_of" (ar fJ) (ao fJ) (ae fJ) .none TB Ws Qg Yi M6 Xm),O6⟩) (c31:W.codeIn K M6 "run_of" = true) (k31:W.keepIn K (.ref Vy) = true)
    (a32:W.nsIn K mainGlobals "are_entries_of_a_run" = some (some (.ref Vx))) (l32:K.lookup Vx = some ⟨Sd,Rc,.func (W.fnOf "are_entries_of_a_run" "are_entries_of_a_run" (ar aJ) (ao aJ) (ae aJ) .none Tz Wr Qf Yh M5 Xl),O5⟩) (c32:W.codeIn K M5 "are_entries_of_a_run" = true) (k32:W.keepIn K (.ref Vx) = true)
    (a33:W.nsIn K mainGlobals "is_pair" = some (some (.ref Vw))) (l33:K.lookup Vw = some ⟨Sb,Rb,.func (W.fnOf "is_pair" "is_pair" (ar ej) (ao ej) (ae ej) .none Tx Wq Qe Yg M4 Xk),O4⟩) (c33:W.codeIn K M4 "is_pair" = true) (k33:W.keepIn K (.ref Vw) = true)
    (a34:W.nsIn K mainGlobals "is_run" = some (some (.ref Vv))) (l34:K.lookup Vv = some ⟨R',Ra,.func (W.fnOf "is_run" "is_run" (ar fN) (ao fN) (ae fN) .none Tw Wo Qd Yf M3 Xj),O3⟩) (c34:W.codeIn K M3 "is_run" = true) (k34:W.keepIn K (.ref Vv) = true)
    (a35:W.nsIn K mainGlobals "find" = some (some (.ref Vu))) (l35:K.lookup Vu = some ⟨R9,Q9,.func (W.fnOf "find" "find" (ar jW) (ao jW) (ae jW) .none Tv Wn Qc Ye M1 Xi),O2⟩) (c35:W.codeIn K M1 "find" = true) (k35:W.keepIn K (.ref Vu) = true)
    (a36:W.nsIn K mainGlobals "between" = some (some (.ref Vt))) (l36:K.lookup Vt = some ⟨R8,Q8,.func (W.fnOf "between" "between" (ar et) (ao et) (ae et) .none Tu Wm Qb Yd M0 Xh),O1⟩) (c36:W.codeIn K M0 "between" = true) (k36:W.keepIn K (.ref Vt) = true)
    (a37:W.nsIn K mainGlobals "check_of" = some (some (.ref Vs))) (l37:K.lookup Vs = some ⟨R7,Q7,.func (W.fnOf "check_of" "check_of" (ar dN) (ao dN) (ae dN) .none Tt Wl Qa Yc MZ Xg),O0⟩) (c37:W.codeIn K MZ "check_of" = true) (k37:W.keepIn K (.ref Vs) = true)
    (a38:W.nsIn K mainGlobals "entry_row" = some (some (.ref Vr))) (l38:K.lookup Vr = some ⟨R6,Q6,.func (W.fnOf "entry_row" "entry_row" (ar cZ) (ao cZ) (ae cZ) .none Ts Wk P9 Yb MY Xf),OZ⟩) (c38:W.codeIn K MY "entry_row" = true) (k38:W.keepIn K (.ref Vr) = true)
    (a39:W.nsIn K mainGlobals "end_row" = some (some (.ref Vq))) (l39:K.lookup Vq = some ⟨R5,Q5,.func (W.fnOf "end_row" "end_row" (ar en) (ao en) (ae en) .none Tr Wj P8 Ya MX Xe),OY⟩) (c39:W.codeIn K MX "end_row" = true) (k39:W.keepIn K (.ref Vq) = true)
    (a40:W.nsIn K mainGlobals "run_text" = some (some (.ref Vo))) (l40:K.lookup Vo = some ⟨R0,Q4,.func (W.fnOf "run_text" "run_text" (ar cV) (ao cV) (ae cV) .none Tq Wi P7 X' MW Xd),OX⟩) (c40:W.codeIn K MW "run_text" = true) (k40:W.keepIn K (.ref Vo) = true)
    (a41:W.nsIn K mainGlobals "read_head" = some (some (.ref Vn))) (l41:K.lookup Vn = some ⟨RZ,Q3,.func (W.fnOf "read_head" "read_head" (ar cX) (ao cX) (ae cX) .none Tp Wh P6 X9 MV Xc),OW⟩) (c41:W.codeIn K MV "read_head" = true) (k41:W.keepIn K (.ref Vn) = true)
    (a42:W.nsIn K mainGlobals "read_sieve_row" = some (some (.ref Vm))) (l42:K.lookup Vm = some ⟨RY,Q2,.func (W.fnOf "read_sieve_row" "read_sieve_row" (ar bo) (ao bo) (ae bo) .none To Wg P5 X8 MU Xb),OV⟩) (c42:W.codeIn K MU "read_sieve_row" = true) (k42:W.keepIn K (.ref Vm) = true)
    (a43:W.nsIn K mainGlobals "read_entry" = some (some (.ref Vl))) (l43:K.lookup Vl = some ⟨RX,Q1,.func (W.fnOf "read_entry" "read_entry" (ar cF) (ao cF) (ae cF) .none Tn Wf P4 X7 MT Xa),OU⟩) (c43:W.codeIn K MT "read_entry" = true) (k43:W.keepIn K (.ref Vl) = true)
    (a44:W.nsIn K mainGlobals "read_entries" = some (some (.ref Vk))) (l44:K.lookup Vk = some ⟨RW,Q0,.func (W.fnOf "read_entries" "read_entries" (ar bM) (ao bM) (ae bM) .none Tj We P2 X6 MS W'),OT⟩) (c44:W.codeIn K MS "read_entries" = true) (k44:W.keepIn K (.ref Vk) = true)
    (a45:W.nsIn K mainGlobals "check_end" = some (some (.ref Vj))) (l45:K.lookup Vj = some ⟨RV,QZ,.func (W.fnOf "check_end" "check_end" (ar da) (ao da) (ae da) .none Ti Wd P1 X5 MR W9),OS⟩) (c45:W.codeIn K MR "check_end" = true) (k45:W.keepIn K (.ref Vj) = true)
    (a46:W.nsIn K mainGlobals "read_run" = some (some (.ref Vi))) (l46:K.lookup Vi = some ⟨RU,QY,.func (W.fnOf "read_run" "read_run" (ar dG) (ao dG) (ae dG) .none Th Wc P0 X4 MQ W8),OR⟩) (c46:W.codeIn K MQ "read_run" = true) (k46:W.keepIn K (.ref Vi) = true)
    (a47:W.nsIn K mainGlobals "_law_cell_at" = some (some (.ref Vh))) (l47:K.lookup Vh = some ⟨RT,QX,.func (W.fnOf "_law_cell_at" "_law_cell_at" (ar bP) (ao bP) (ae bP) .none Tg Wb PZ X3 MP W7),OQ⟩) (c47:W.codeIn K MP "_law_cell_at" = true) (k47:W.keepIn K (.ref Vh) = true)
    (a48:W.nsIn K mainGlobals "_law_stream" = some (some (.ref Vg))) (l48:K.lookup Vg = some ⟨RS,QW,.func (W.fnOf "_law_stream" "_law_stream" (ar cv) (ao cv) (ae cv) .none Tf Wa PY X2 MO W6),OP⟩) (c48:W.codeIn K MO "_law_stream" = true) (k48:W.keepIn K (.ref Vg) = true)
    (a49:W.nsIn K mainGlobals "_law_text_by" = some (some (.ref Vf))) (l49:K.lookup Vf = some ⟨RR,QV,.func (W.fnOf "_law_text_by" "_law_text_by" (ar bu) (ao bu) (ae bu) .none Te V' PX X1 MN W5),OO⟩) (c49:W.codeIn K MN "_law_text_by" = true) (k49:W.keepIn K (.ref Vf) = true)
    (a50:W.nsIn K mainGlobals "_law_key_by" = some (some (.ref Ve))) (l50:K.lookup Ve = some ⟨RQ,QU,.func (W.fnOf "_law_key_by" "_law_key_by" (ar cw) (ao cw) (ae cw) .none Td V9 PV X0 MM W4),ON⟩) (c50:W.codeIn K MM "_law_key_by" = true) (k50:W.keepIn K (.ref Ve) = true)
    (a51:W.nsIn K mainGlobals "_law_near" = some (some (.ref Vd))) (l51:K.lookup Vd = some ⟨RP,QT,.func (W.fnOf "_law_near" "_law_near" (ar de) (ao de) (ae de) .none Tc V8 PU XZ ML W3),OM⟩) (c51:W.codeIn K ML "_law_near" = true) (k51:W.keepIn K (.ref Vd) = true)
    (a52:W.nsIn K mainGlobals "_law_value_by" = some (some (.ref Vc))) (l52:K.lookup Vc = some ⟨RO,QS,.func (W.fnOf "_law_value_by" "_law_value_by" (ar bD) (ao bD) (ae bD) .none Tb V7 PR XY MK W2),OL⟩) (c52:W.codeIn K MK "_law_value_by" = true) (k52:W.keepIn K (.ref Vc) = true)
    (a53:W.nsIn K mainGlobals "_law_stamp_by" = some (some (.ref Vb))) (l53:K.lookup Vb = some ⟨RN,QR,.func (W.fnOf "_law_stamp_by" "_law_stamp_by" (ar bE) (ao bE) (ae bE) .none Ta V6 PQ XX MJ W0),OK⟩) (c53:W.codeIn K MJ "_law_stamp_by" = true) (k53:W.keepIn K (.ref Vb) = true)
    (a54:W.nsIn K mainGlobals "_law_entries_by" = some (some (.ref Va))) (l54:K.lookup Va = some ⟨RM,QQ,.func (W.fnOf "_law_entries_by" "_law_entries_by" (ar aS) (ao aS) (ae aS) .none S9 V5 PN XW MI WZ),OJ⟩) (c54:W.codeIn K MI "_law_entries_by" = true) (k54:W.keepIn K (.ref Va) = true)
    (a55:W.nsIn K mainGlobals "_law_many_by" = some (some (.ref U9))) (l55:K.lookup U9 = some ⟨RL,QP,.func (W.fnOf "_law_many_by" "_law_many_by" (ar bO) (ao bO) (ae bO) .none S8 V4 PM XU MH WY),OI⟩) (c55:W.codeIn K MH "_law_many_by" = true) (k55:W.keepIn K (.ref U9) = true)
    {Df:Addr}
    (ZY:W.nsIn K mainGlobals "_law_in_order" = some (some (.ref U8))) (l56:K.lookup U8 = some ⟨RJ,QO,.func (W.fnOf "_law_in_order" "_law_in_order" (ar aT) (ao aT) (ae aT) .none S7 V3 PL XT (.ref Df) WX),OH⟩) (c56:W.codeIn K (.ref Df) "_law_in_order" = true) (k56:W.keepIn K (.ref U8) = true)
    (Mz:W.codeHdIn K Df kU = true)
    (a57:W.nsIn K mainGlobals "_law_entry_same" = some (some (.ref U7))) (l57:K.lookup U7 = some ⟨RI,QN,.func (W.fnOf "_law_entry_same" "_law_entry_same" (ar ba) (ao ba) (ae ba) .none S6 V2 PJ XS MG WW),OG⟩) (c57:W.codeIn K MG "_law_entry_same" = true) (k57:W.keepIn K (.ref U7) = true)
    (a58:W.nsIn K mainGlobals "_law_all_same" = some (some (.ref U6))) (l58:K.lookup U6 = some ⟨RH,QM,.func (W.fnOf "_law_all_same" "_law_all_same" (ar bg) (ao bg) (ae bg) .none S5 V1 PH XR MF WV),OF⟩) (c58:W.codeIn K MF "_law_all_same" = true) (k58:W.keepIn K (.ref U6) = true)
    (a59:W.nsIn K mainGlobals "_law_due" = some (some (.ref U5))) (l59:K.lookup U5 = some ⟨RG,QL,.func (W.fnOf "_law_due" "_law_due" (ar dO) (ao dO) (ae dO) .none S0 V0 PF XQ ME WU),OE⟩) (c59:W.codeIn K ME "_law_due" = true) (k59:W.keepIn K (.ref U5) = true)
    (a60:W.nsIn K mainGlobals "_law_answers" = some (some (.ref U4))) (l60:K.lookup U4 = some ⟨RF,QK,.func (W.fnOf "_law_answers" "_law_answers" (ar bQ) (ao bQ) (ae bQ) .none SY VZ PD XO MD WT),OD⟩) (c60:W.codeIn K MD "_law_answers" = true) (k60:W.keepIn K (.ref U4) = true)
    (a61:W.nsIn K mainGlobals "_law_stretched" = some (some (.ref U3))) (l61:K.lookup U3 = some ⟨RE,QJ,.func (W.fnOf "_law_stretched" "_law_stretched" (ar aV) (ao aV) (ae aV) .none SX VY PC XN MC WS),OC⟩) (c61:W.codeIn K MC "_law_stretched" = true) (k61:W.keepIn K (.ref U3) = true)
    (ZX:W.nsIn K mainGlobals "law" = some (some (.ref U2))) (l62:K.lookup U2 = some ⟨RD,QI,.func (W.fnOf "law" "law" (ar nO) (ao nO) (ae nO) .none SV VX PB XM MB WR),OB⟩) (c62:W.codeIn K MB "law" = true) (k62:W.keepIn K (.ref U2) = true)
    (kT:K.lookup kU = none)
    (AG:K.lookup bG = none)
    {pb:Addr} {tN tM tL:Tok} {uN:Option Addr} {xm:Nat} {ue:Array (Option Value)} (g_FACTORS:W.nsIn K mainGlobals "FACTORS" = some (some (.ref pb))) (zI:K.lookup pb = some ⟨.type "tuple",uN,.seq #[Value.int 31 tN,Value.int 37 tM,Value.int 41 tL] xm,ue⟩)
    (g0:W.nsIn K mainGlobals "FIGURES" = some (some (Value.str (PySem.Str.ofString "0123456789") Kb)))
    (g1:W.nsIn K mainGlobals "LOWEST_SIGN" = some (some (Value.str (PySem.Str.ofString " ") tk1)))
    (g2:W.nsIn K mainGlobals "HIGHEST_SIGN" = some (some (Value.str (PySem.Str.ofString "~") tk2)))
    (g3:W.nsIn K mainGlobals "LONGEST_KEY" = some (some (Value.int 20 Ka)))
    (g4:W.nsIn K mainGlobals "LONGEST_VALUE" = some (some (Value.int 40 tk4)))
    (g5:W.nsIn K mainGlobals "GREATEST_STAMP" = some (some (Value.int 999999999 NH)))
    (g6:W.nsIn K mainGlobals "KEY_FIGURES" = some (some (Value.int 2 tk6)))
    (g7:W.nsIn K mainGlobals "FIRST_NUMBER_sieves" = some (some (Value.int 7 tk7)))
    (g8:W.nsIn K mainGlobals "MODULUS_sieves" = some (some (Value.int 1000003 tk8)))
    (g9:W.nsIn K mainGlobals "SIGNS" = some (some (Value.str (PySem.Str.ofString "abcdefghijklmnop") tk9)))
    (g10:W.nsIn K mainGlobals "GREATEST_SIZE" = some (some (Value.int 999992 Ow)))
    (g11:W.nsIn K mainGlobals "FIRST_NUMBER_runfiles" = some (some (Value.int 7 Ov)))
    (g12:W.nsIn K mainGlobals "FACTOR" = some (some (Value.int 31 Ou)))
    (g13:W.nsIn K mainGlobals "MODULUS_runfiles" = some (some (Value.int 9973 Ot)))
    (g14:W.nsIn K mainGlobals "MOST_ENTRIES" = some (some (Value.int 9999 Oq)))
    (g15:W.nsIn K mainGlobals "HEAD_LINE" = some (some (Value.int 1 Oo)))
    (g16:W.nsIn K mainGlobals "SIEVE_LINE" = some (some (Value.int 2 Om)))
    (g17:W.nsIn K mainGlobals "FIRST_ENTRY_LINE" = some (some (Value.int 3 Ol)))
    (z0:W.nsIn K mainGlobals "_law_entry" = some none)
    (z1:W.nsIn K mainGlobals "all" = some none)
    (z2:W.nsIn K mainGlobals "bool" = some none)
    (z3:W.nsIn K mainGlobals "int" = some none)
    (z4:W.nsIn K mainGlobals "isinstance" = some none)
    (z5:W.nsIn K mainGlobals "key" = some none)
    (z6:W.nsIn K mainGlobals "len" = some none)
    (z7:W.nsIn K mainGlobals "list" = some none)
    (z8:W.nsIn K mainGlobals "max" = some none)
    (z9:W.nsIn K mainGlobals "ord" = some none)
    (z10:W.nsIn K mainGlobals "place_of" = some none)
    (z11:W.nsIn K mainGlobals "range" = some none)
    (z12:W.nsIn K mainGlobals "set" = some none)
    (z13:W.nsIn K mainGlobals "size" = some none)
    (z14:W.nsIn K mainGlobals "sorted" = some none)
    (z15:W.nsIn K mainGlobals "str" = some none)
    (z16:W.nsIn K mainGlobals "tuple" = some none)
    : (∀ p ∈ tabs,K.lookup p = none/\∃ c,W.codeHdIn K c p = true)/\∃ fd:FuncData,(∀ (s:Shared) (v:Value),BindsTo s fd ⟨[v],[]⟩ [("_law_script",v)])/\∀ base:Heap,K.In base->base.Ns mainGlobals mg->(∀ p ∈ tabs,base.BuiltinsAt mg p)->FnOk l.prog w K mg base cy 15 fa fd ["_law_script"] (xY K):=by
 have e:=Ko.symm.trans (W.mg_of X G ZX)
 cases e
 have F1:=aB (st:=bI) l1 c1 k1;have b1:=F1.binds (ps:=["text"]) fun _ _ _ _ _ _ us hl=>match us,hl with | [_],_=>rfl
 have F2:=aB (st:=fL) l2 c2 k2;have b2:=F2.binds (ps:=["number","width"]) fun _ _ _ _ _ _ us hl=>match us,hl with | [_,_],_=>rfl
 have F3:=aB (st:=cq) l3 c3 k3;have b3:=F3.binds (ps:=["text","least","most"]) fun _ _ _ _ _ _ us hl=>match us,hl with | [_,_,_],_=>rfl
 have F4:=aB (st:=bL) l4 c4 k4;have b4:=F4.binds (ps:=["text","least","most"]) fun _ _ _ _ _ _ us hl=>match us,hl with | [_,_,_],_=>rfl
 have F5:=aB (st:=bf) l5 c5 k5;have b5:=F5.binds (ps:=["thing","fewest","most"]) fun _ _ _ _ _ _ us hl=>match us,hl with | [_,_,_],_=>rfl
 have F6:=aB (st:=fO) l6 c6 k6;have b6:=F6.binds (ps:=["thing"]) fun _ _ _ _ _ _ us hl=>match us,hl with | [_],_=>rfl
 have F7:=aB (st:=dH) l7 c7 k7;have b7:=F7.binds (ps:=["thing"]) fun _ _ _ _ _ _ us hl=>match us,hl with | [_],_=>rfl
 have F8:=aB (st:=aZ) l8 c8 k8;have b8:=F8.binds (ps:=["thing"]) fun _ _ _ _ _ _ us hl=>match us,hl with | [_],_=>rfl
 have F9:=aB (st:=dI) l9 c9 k9;have b9:=F9.binds (ps:=["thing"]) fun _ _ _ _ _ _ us hl=>match us,hl with | [_],_=>rfl
 have F10:=aB (st:=dJ) l10 c10 k10;have b10:=F10.binds (ps:=["thing"]) fun _ _ _ _ _ _ us hl=>match us,hl with | [_],_=>rfl
 have F11:=aB (st:=ei) l11 c11 k11;have b11:=F11.binds (ps:=["entry"]) fun _ _ _ _ _ _ us hl=>match us,hl with | [_],_=>rfl
 have F12:=aB (st:=cu) l12 c12 k12;have b12:=F12.binds (ps:=["one","other"]) fun _ _ _ _ _ _ us hl=>match us,hl with | [_,_],_=>rfl
 have F13:=aB (st:=dM) l13 c13 k13;have b13:=F13.binds (ps:=["entries"]) fun _ _ _ _ _ _ us hl=>match us,hl with | [_],_=>rfl
 have F14:=aB (st:=dQ) l14 c14 k14;have b14:=F14.binds (ps:=["entries","low","high"]) fun _ _ _ _ _ _ us hl=>match us,hl with | [_,_,_],_=>rfl
 have F15:=aB (st:=fM) l15 c15 k15;have b15:=F15.binds (ps:=["entries","key","stamp"]) fun _ _ _ _ _ _ us hl=>match us,hl with | [_,_,_],_=>rfl
 have F16:=aB (st:=br) l16 c16 k16;have b16:=F16.binds (ps:=["rows"]) fun _ _ _ _ _ _ us hl=>match us,hl with | [_],_=>rfl
 have F17:=aB (st:=eh) l17 c17 k17;have b17:=F17.binds (ps:=["text"]) fun _ _ _ _ _ _ us hl=>match us,hl with | [_],_=>rfl
 have F18:=aB (st:=fK) l18 c18 k18;have b18:=F18.binds (ps:=["rows","line"]) fun _ _ _ _ _ _ us hl=>match us,hl with | [_,_],_=>rfl
 have F19:=aB (st:=bN) l19 c19 k19;have b19:=F19.binds (ps:=["key","rest"]) fun _ _ _ _ _ _ us hl=>match us,hl with | [_,_],_=>rfl
 have F20:=aB (st:=aR) l20 c20 k20;have b20:=F20.binds (ps:=["text"]) fun _ _ _ _ _ _ us hl=>match us,hl with | [_],_=>rfl
 have YI:=aB (st:=fB) l21 c21 k21;have ZU:=YI.binds (ps:=["factor"]) fun _ _ _ _ _ _ us hl=>match us,hl with | [_],_=>rfl
 have F22:=aB (st:=cD) l22 c22 k22;have b22:=F22.binds (ps:=["key","size"]) fun _ _ _ _ _ _ us hl=>match us,hl with | [_,_],_=>rfl
 have F23:=aB (st:=dF) l23 c23 k23;have b23:=F23.binds (ps:=["keys"]) fun _ _ _ _ _ _ us hl=>match us,hl with | [_],_=>rfl
 have F24:=aB (st:=cY) l24 c24 k24;have b24:=F24.binds (ps:=["sieve","key"]) fun _ _ _ _ _ _ us hl=>match us,hl with | [_,_],_=>rfl
 have F25:=aB (st:=dE) l25 c25 k25;have b25:=F25.binds (ps:=["bits","many"]) fun _ _ _ _ _ _ us hl=>match us,hl with | [_,_],_=>rfl
 have F26:=aB (st:=er) l26 c26 k26;have b26:=F26.binds (ps:=["signs"]) fun _ _ _ _ _ _ us hl=>match us,hl with | [_],_=>rfl
 have F27:=aB (st:=cE) l27 c27 k27;have b27:=F27.binds (ps:=["sieve"]) fun _ _ _ _ _ _ us hl=>match us,hl with | [_],_=>rfl
 have F28:=aB (st:=cW) l28 c28 k28;have b28:=F28.binds (ps:=["text"]) fun _ _ _ _ _ _ us hl=>match us,hl with | [_],_=>rfl
 have F29:=aB (st:=cj) l29 c29 k29;have b29:=F29.binds (ps:=["text"]) fun _ _ _ _ _ _ us hl=>match us,hl with | [_],_=>rfl
 have F30:=aB (st:=aP) l30 c30 k30;have b30:=F30.binds (ps:=["entries"]) fun _ _ _ _ _ _ us hl=>match us,hl with | [_],_=>rfl
 have F31:=aB (st:=fJ) l31 c31 k31;have b31:=F31.binds (ps:=["entries"]) fun _ _ _ _ _ _ us hl=>match us,hl with | [_],_=>rfl
 have F32:=aB (st:=aJ) l32 c32 k32;have b32:=F32.binds (ps:=["thing"]) fun _ _ _ _ _ _ us hl=>match us,hl with | [_],_=>rfl
 have F33:=aB (st:=ej) l33 c33 k33;have b33:=F33.binds (ps:=["thing"]) fun _ _ _ _ _ _ us hl=>match us,hl with | [_],_=>rfl
 have F34:=aB (st:=fN) l34 c34 k34;have b34:=F34.binds (ps:=["thing"]) fun _ _ _ _ _ _ us hl=>match us,hl with | [_],_=>rfl
 have F35:=aB (st:=jW) l35 c35 k35;have b35:=F35.binds (ps:=["run","key","stamp"]) fun _ _ _ _ _ _ us hl=>match us,hl with | [_,_,_],_=>rfl
 have F36:=aB (st:=et) l36 c36 k36;have b36:=F36.binds (ps:=["run","low","high"]) fun _ _ _ _ _ _ us hl=>match us,hl with | [_,_,_],_=>rfl
 have F37:=aB (st:=dN) l37 c37 k37;have b37:=F37.binds (ps:=["text"]) fun _ _ _ _ _ _ us hl=>match us,hl with | [_],_=>rfl
 have F38:=aB (st:=cZ) l38 c38 k38;have b38:=F38.binds (ps:=["entry"]) fun _ _ _ _ _ _ us hl=>match us,hl with | [_],_=>rfl
 have F39:=aB (st:=en) l39 c39 k39;have b39:=F39.binds (ps:=["ahead"]) fun _ _ _ _ _ _ us hl=>match us,hl with | [_],_=>rfl
 have F40:=aB (st:=cV) l40 c40 k40;have b40:=F40.binds (ps:=["run"]) fun _ _ _ _ _ _ us hl=>match us,hl with | [_],_=>rfl
 have F41:=aB (st:=cX) l41 c41 k41;have b41:=F41.binds (ps:=["row"]) fun _ _ _ _ _ _ us hl=>match us,hl with | [_],_=>rfl
 have F42:=aB (st:=bo) l42 c42 k42;have b42:=F42.binds (ps:=["row"]) fun _ _ _ _ _ _ us hl=>match us,hl with | [_],_=>rfl
 have F43:=aB (st:=cF) l43 c43 k43;have b43:=F43.binds (ps:=["row"]) fun _ _ _ _ _ _ us hl=>match us,hl with | [_],_=>rfl
 have F44:=aB (st:=bM) l44 c44 k44;have b44:=F44.binds (ps:=["rows","many"]) fun _ _ _ _ _ _ us hl=>match us,hl with | [_,_],_=>rfl
 have F45:=aB (st:=da) l45 c45 k45;have b45:=F45.binds (ps:=["text","rows","line"]) fun _ _ _ _ _ _ us hl=>match us,hl with | [_,_,_],_=>rfl
 have F46:=aB (st:=dG) l46 c46 k46;have b46:=F46.binds (ps:=["text"]) fun _ _ _ _ _ _ us hl=>match us,hl with | [_],_=>rfl
 have F47:=aB (st:=bP) l47 c47 k47;have b47:=F47.binds (ps:=["_law_script","_law_k"]) fun _ _ _ _ _ _ us hl=>match us,hl with | [_,_],_=>rfl
 have F48:=aB (st:=cv) l48 c48 k48;have b48:=F48.binds (ps:=["_law_cell","_law_many"]) fun _ _ _ _ _ _ us hl=>match us,hl with | [_,_],_=>rfl
 have F49:=aB (st:=bu) l49 c49 k49;have b49:=F49.binds (ps:=["_law_x","_law_size","_law_some"]) fun _ _ _ _ _ _ us hl=>match us,hl with | [_,_,_],_=>rfl
 have F50:=aB (st:=cw) l50 c50 k50;have b50:=F50.binds (ps:=["_law_x"]) fun _ _ _ _ _ _ us hl=>match us,hl with | [_],_=>rfl
 have F51:=aB (st:=de) l51 c51 k51;have b51:=F51.binds (ps:=["_law_named","_law_x"]) fun _ _ _ _ _ _ us hl=>match us,hl with | [_,_],_=>rfl
 have F52:=aB (st:=bD) l52 c52 k52;have b52:=F52.binds (ps:=["_law_x"]) fun _ _ _ _ _ _ us hl=>match us,hl with | [_],_=>rfl
 have F53:=aB (st:=bE) l53 c53 k53;have b53:=F53.binds (ps:=["_law_x"]) fun _ _ _ _ _ _ us hl=>match us,hl with | [_],_=>rfl
 have F54:=aB (st:=aS) l54 c54 k54;have b54:=F54.binds (ps:=["_law_cell","_law_many"]) fun _ _ _ _ _ _ us hl=>match us,hl with | [_,_],_=>rfl
 have Z':=aB (st:=bO) l55 c55 k55;have b55:=Z'.binds (ps:=["_law_cell"]) fun _ _ _ _ _ _ us hl=>match us,hl with | [_],_=>rfl
 have YH:=aB (st:=aT) l56 c56 k56;have ZT:=YH.binds (ps:=["_law_entries"]) fun _ _ _ _ _ _ us hl=>match us,hl with | [_],_=>rfl
 have Z9:=aB (st:=ba) l57 c57 k57;have b57:=Z9.binds (ps:=["_law_told","_law_due_here"]) fun _ _ _ _ _ _ us hl=>match us,hl with | [_,_],_=>rfl
 have Z8:=aB (st:=bg) l58 c58 k58;have b58:=Z8.binds (ps:=["_law_told","_law_due_here"]) fun _ _ _ _ _ _ us hl=>match us,hl with | [_,_],_=>rfl
 have Z7:=aB (st:=dO) l59 c59 k59;have b59:=Z7.binds (ps:=["_law_entries","_law_named","_law_stamp"]) fun _ _ _ _ _ _ us hl=>match us,hl with | [_,_,_],_=>rfl
 have Z6:=aB (st:=bQ) l60 c60 k60;have b60:=Z6.binds (ps:=["_law_run","_law_entries","_law_xs"]) fun _ _ _ _ _ _ us hl=>match us,hl with | [_,_,_],_=>rfl
 have Z5:=aB (st:=aV) l61 c61 k61;have b61:=Z5.binds (ps:=["_law_run","_law_entries","_law_xs"]) fun _ _ _ _ _ _ us hl=>match us,hl with | [_,_,_],_=>rfl
 have Z4:=aB (st:=nO) l62 c62 k62;have b62:=Z4.binds (ps:=["_law_script"]) fun _ _ _ _ _ _ us hl=>match us,hl with | [_],_=>rfl
 have T:Txt K mg:={ g_FACTORS:=⟨_,⟨_,W.mg_of X G g_FACTORS,rfl⟩,fun H=>.inr ⟨_,_,_,zI,rfl,rfl,by simp [sizeLine_eq],.cons ⟨_,rfl⟩ (.cons ⟨_,rfl⟩ (.cons ⟨_,rfl⟩ (.nil)))⟩⟩,f_are_figures:=⟨_,_,F1,W.mg_of X G a1,b1⟩,f_padded:=⟨_,_,F2,W.mg_of X G a2,b2⟩,f_read_padded:=⟨_,_,F3,W.mg_of X G a3,b3⟩,f_read_figures:=⟨_,_,F4,W.mg_of X G a4,b4⟩,f_is_plain_text:=⟨_,_,F5,W.mg_of X G a5,b5⟩,f_is_key:=⟨_,_,F6,W.mg_of X G a6,b6⟩,f_is_value:=⟨_,_,F7,W.mg_of X G a7,b7⟩,f_is_whole_number:=⟨_,_,F8,W.mg_of X G a8,b8⟩,f_is_stamp:=⟨_,_,F9,W.mg_of X G a9,b9⟩,f_is_entry:=⟨_,_,F10,W.mg_of X G a10,b10⟩,f_rank_of:=⟨_,_,F11,W.mg_of X G a11,b11⟩,f_comes_ahead:=⟨_,_,F12,W.mg_of X G a12,b12⟩,f_in_order:=⟨_,_,F13,W.mg_of X G a13,b13⟩,f_stretch:=⟨_,_,F14,W.mg_of X G a14,b14⟩,f_newest:=⟨_,_,F15,W.mg_of X G a15,b15⟩,f_text_of_rows:=⟨_,_,F16,W.mg_of X G a16,b16⟩,f_rows_of:=⟨_,_,F17,W.mg_of X G a17,b17⟩,f_row_at:=⟨_,_,F18,W.mg_of X G a18,b18⟩,f_key_and_rest:=⟨_,_,F19,W.mg_of X G a19,b19⟩,f_read_key_and_rest:=⟨_,_,F20,W.mg_of X G a20,b20⟩,f_probe:=⟨_,_,YI,W.mg_of X G ZZ,ZU⟩,c_probe:=⟨_,_,_,⟨YI,W.mg_of X G ZZ,ZU⟩,rfl,MA⟩,f_places_of:=⟨_,_,F22,W.mg_of X G a22,b22⟩,f_sieve_of:=⟨_,_,F23,W.mg_of X G a23,b23⟩,f_may_have:=⟨_,_,F24,W.mg_of X G a24,b24⟩,f_signs_of:=⟨_,_,F25,W.mg_of X G a25,b25⟩,f_bits_of:=⟨_,_,F26,W.mg_of X G a26,b26⟩,f_sieve_text:=⟨_,_,F27,W.mg_of X G a27,b27⟩,f_read_size:=⟨_,_,F28,W.mg_of X G a28,b28⟩,f_read_sieve:=⟨_,_,F29,W.mg_of X G a29,b29⟩,f_sieve_of_entries:=⟨_,_,F30,W.mg_of X G a30,b30⟩,f_run_of:=⟨_,_,F31,W.mg_of X G a31,b31⟩,f_are_entries_of_a_run:=⟨_,_,F32,W.mg_of X G a32,b32⟩,f_is_pair:=⟨_,_,F33,W.mg_of X G a33,b33⟩,f_is_run:=⟨_,_,F34,W.mg_of X G a34,b34⟩,f_find:=⟨_,_,F35,W.mg_of X G a35,b35⟩,f_between:=⟨_,_,F36,W.mg_of X G a36,b36⟩,f_check_of:=⟨_,_,F37,W.mg_of X G a37,b37⟩,f_entry_row:=⟨_,_,F38,W.mg_of X G a38,b38⟩,f_end_row:=⟨_,_,F39,W.mg_of X G a39,b39⟩,f_run_text:=⟨_,_,F40,W.mg_of X G a40,b40⟩,f_read_head:=⟨_,_,F41,W.mg_of X G a41,b41⟩,f_read_sieve_row:=⟨_,_,F42,W.mg_of X G a42,b42⟩,f_read_entry:=⟨_,_,F43,W.mg_of X G a43,b43⟩,f_read_entries:=⟨_,_,F44,W.mg_of X G a44,b44⟩,f_check_end:=⟨_,_,F45,W.mg_of X G a45,b45⟩,f_read_run:=⟨_,_,F46,W.mg_of X G a46,b46⟩,f__law_cell_at:=⟨_,_,F47,W.mg_of X G a47,b47⟩,f__law_stream:=⟨_,_,F48,W.mg_of X G a48,b48⟩,f__law_text_by:=⟨_,_,F49,W.mg_of X G a49,b49⟩,f__law_key_by:=⟨_,_,F50,W.mg_of X G a50,b50⟩,f__law_near:=⟨_,_,F51,W.mg_of X G a51,b51⟩,f__law_value_by:=⟨_,_,F52,W.mg_of X G a52,b52⟩,f__law_stamp_by:=⟨_,_,F53,W.mg_of X G a53,b53⟩,f__law_entries_by:=⟨_,_,F54,W.mg_of X G a54,b54⟩,f__law_many_by:=⟨_,_,Z',W.mg_of X G a55,b55⟩,f__law_in_order:=⟨_,_,YH,W.mg_of X G ZY,ZT⟩,c__law_in_order:=⟨_,_,_,⟨YH,W.mg_of X G ZY,ZT⟩,rfl,Mz⟩,f__law_entry_same:=⟨_,_,Z9,W.mg_of X G a57,b57⟩,f__law_all_same:=⟨_,_,Z8,W.mg_of X G a58,b58⟩,f__law_due:=⟨_,_,Z7,W.mg_of X G a59,b59⟩,f__law_answers:=⟨_,_,Z6,W.mg_of X G a60,b60⟩,f__law_stretched:=⟨_,_,Z5,W.mg_of X G a61,b61⟩,g_FIGURES:=⟨_,W.mg_of X G g0,⟨_,rfl⟩⟩,g_LOWEST_SIGN:=⟨_,W.mg_of X G g1,⟨_,rfl⟩⟩,g_HIGHEST_SIGN:=⟨_,W.mg_of X G g2,⟨_,rfl⟩⟩,g_LONGEST_KEY:=⟨_,W.mg_of X G g3,⟨_,rfl⟩⟩,g_LONGEST_VALUE:=⟨_,W.mg_of X G g4,⟨_,rfl⟩⟩,g_GREATEST_STAMP:=⟨_,W.mg_of X G g5,⟨_,rfl⟩⟩,g_KEY_FIGURES:=⟨_,W.mg_of X G g6,⟨_,rfl⟩⟩,g_FIRST_NUMBER_sieves:=⟨_,W.mg_of X G g7,⟨_,rfl⟩⟩,g_MODULUS_sieves:=⟨_,W.mg_of X G g8,⟨_,rfl⟩⟩,g_SIGNS:=⟨_,W.mg_of X G g9,⟨_,rfl⟩⟩,g_GREATEST_SIZE:=⟨_,W.mg_of X G g10,⟨_,rfl⟩⟩,g_FIRST_NUMBER_runfiles:=⟨_,W.mg_of X G g11,⟨_,rfl⟩⟩,g_FACTOR:=⟨_,W.mg_of X G g12,⟨_,rfl⟩⟩,g_MODULUS_runfiles:=⟨_,W.mg_of X G g13,⟨_,rfl⟩⟩,g_MOST_ENTRIES:=⟨_,W.mg_of X G g14,⟨_,rfl⟩⟩,g_HEAD_LINE:=⟨_,W.mg_of X G g15,⟨_,rfl⟩⟩,g_SIEVE_LINE:=⟨_,W.mg_of X G g16,⟨_,rfl⟩⟩,g_FIRST_ENTRY_LINE:=⟨_,W.mg_of X G g17,⟨_,rfl⟩⟩,b__law_entry:=W.mg_none_of X G z0,b_all:=W.mg_none_of X G z1,b_bool:=W.mg_none_of X G z2,b_int:=W.mg_none_of X G z3,b_isinstance:=W.mg_none_of X G z4,b_key:=W.mg_none_of X G z5,b_len:=W.mg_none_of X G z6,b_list:=W.mg_none_of X G z7,b_max:=W.mg_none_of X G z8,b_ord:=W.mg_none_of X G z9,b_place_of:=W.mg_none_of X G z10,b_range:=W.mg_none_of X G z11,b_set:=W.mg_none_of X G z12,b_size:=W.mg_none_of X G z13,b_sorted:=W.mg_none_of X G z14,b_str:=W.mg_none_of X G z15,b_tuple:=W.mg_none_of X G z16 }
 exact ⟨fun p hp=>by
  simp only [List.mem_cons,List.not_mem_nil,or_false] at hp
  rcases hp with rfl | rfl
  ·exact ⟨kT,_,Mz⟩
  ·exact ⟨AG,_,MA⟩,_,fun s v=>.of_eq rfl,fun base kIn _ hB=>IW T hB kIn ⟨Z4,W.mg_of X G ZX,b62⟩⟩
theorem walk {l : W.OpenLaw} {q : Program} {loose : List Str} {XP : (Str -> Option Value) -> Heap -> Prop} {YP : World -> Heap -> Prop} {d : DefRec} {K : Params -> W.Frag} (hn : l.most = some 63) (Me : d.params.defaults = [])
    (hY:∀ (w:World) (h:Heap),YP w h->(K w.params).In h/\∀ p ∈ tabs,h.get? p = some (W.tabObj #[]))
    (F:∀ (w:World) (mg:Str->Option Value) (fa:Addr) (h:Heap),(K w.params).In h->h.Ns mainGlobals mg->mg d.name = some (.ref fa) ->
     (∀ p ∈ tabs,(K w.params).lookup p = none/\∃ c,W.codeHdIn (K w.params) c p = true)/\∃ fd:FuncData,(∀ (s:Shared) (u:Value),BindsTo s fd ⟨[u],[]⟩ [("_law_script",u)])/\∀ base:Heap,(K w.params).In base->base.Ns mainGlobals mg->(∀ p ∈ tabs,base.BuiltinsAt mg p)->FnOk l.prog w (K w.params) mg base cy 15 fa fd ["_law_script"] (xY (K w.params))) :
    W.WalkO q loose XP YP l.row.toRowW d [] (fun f vs=>PySem.call f vs) :=
 L2.walk_ofT (n:=63) (ts:=tabs) (k:=15) (x:="_law_script") (CX:=fun _=>cy) (sp:=fun w=>xY (K w.params)) hn (by decide) Me ⟨rfl,by decide,by decide⟩ hY F (fun _ _ a ns hl hT hS=>⟨a,ns,rfl,hS,hl,TabOk.start (hT kU (by simp)),TabOk.start (hT bG (by simp)),fun _=>rfl⟩) fun _ _ _ _ _ z=>z
end T26
namespace PySem.W.Fast
def tw16973734174684128809:=()
def tw11471866817776607963:=()
def tw6213270934045615835:=()
def tw10182199184663440486:=()
def tw9667585971767023350:=()
def tw10425528795587018879:=()
def tw12681435993476245407:=()
def tw7473130662042160609:=()
def tw3116446219733739738:=()
def tw7543108752900715072:=()
def tw2624720482203907144:=()
def tw6796980086610638403:=()
def tw6227902018573324056:=()
def tw15451076688817005868:=()
def tw650237880971991191:=()
def tw5986859589846974715:=()
def tw7621960985034920984:=()
def tw9820047948510673855:=()
def tw968897434393497740:=()
def tw18395501398970646845:=()
def tw8017509436434524305:=()
def tw5015421295087300702:=()
def tw12987260516733022583:=()
def tw12172236193015665993:=()
def tw15745852902982810334:=()
def tw79983404152389088:=()
def tw613817227623927784:=()
def tw921480166549035350:=()
def tw15359918488366108321:=()
def tw14961864147243271248:=()
def tw3423748279319675613:=()
def tw6229958867178648645:=()
def tw8621204235390758657:=()
def tw11828363024317857752:=()
def tw7438914330649511398:=()
def tw2944672012585554456:=()
def tw5165975437610896992:=()
def tw854626746472817926:=()
def tw7208381707490677595:=()
def tw8179246385776570487:=()
def tw13858787296085744840:=()
def tw16276516472075688114:=()
def tw15585895379537633371:=()
def tw5219561216739797011:=()
def tw8417259396037449414:=()
def tw11015178646001740795:=()
def tw16726603816016842736:=()
def tw10726235569754387447:=()
def tw5635279691295837454:=()
def tw13445136479078499244:=()
def tw13729610322876418590:=()
def tw13727088805924990040:=()
def tw1983031337467845698:=()
def tw14909847404695747509:=()
def tw9834528836011821541:=()
def tw16729948849044403030:=()
def tw8763753433425234401:=()
def tw11569334250418904852:=()
def tw13406953203780766574:=()
def tw12748709519852222311:=()
def tw10037742424308230569:=()
def tw4002265898160920933:=()
def tw13806149007119211320:=()
def tw3361961870440273897:=()
def tw13807293580035356509:=()
def tw9213859643643095428:=()
def tw2880300698810368683:=()
def tw15126841038130896057:=()
def tw17286863584326497178:=()
def tw6581873461470802982:=()
def tw12708993247815594584:=()
def tw10697905155487547218:=()
def tw3591589960003695745:=()
def tw14154725661611444627:=()
def tw3433972574491326521:=()
def tw11378914288975287898:=()
def tw17649930636808914517:=()
def tw12402539052947309106:=()
def tw8819335166490306748:=()
def tw7761140307120961532:=()
def tw4356899963463810089:=()
def tw16914837781725920799:=()
def tw8882199589015528118:=()
def tw8894057040289719534:=()
def tw616400835004961727:=()
def tw15404737860147457543:=()
def tw488625433347810820:=()
def tw7743589094598274805:=()
def tw8885741291057869627:=()
def tw2865734720677214702:=()
def tw15839803334929001982:=()
def tw2076669340271050491:=()
def tw16476564176224059681:=()
def tw4147958590583745944:=()
def tw17652646079894550942:=()
def tw11336113608434397950:=()
def tw7472764676489187544:=()
def tw13313710368063770141:=()
def tw17482529974684163863:=()
def tw6110207110251988859:=()
def tw11091322263066261503:=()
def tw17540460388842163321:=()
def tw17585490707797071197:=()
def tw12689752603788426327:=()
def tw6747318705239332819:=()
def tw14151548639814455920:=()
def tw2020004507229417077:=()
def tw16089307843852286250:=()
def tw6739321168562074069:=()
def tw3034142394719752691:=()
def tw8598388061036747627:=()
def tw14068015903391442142:=()
def tw9600421469783611021:=()
def tw5516676284461123188:=()
def tw17297661569957567666:=()
def tw9181739283564380532:=()
def tw4891664844669179404:=()
def tw8106641708214406985:=()
def tw12171192514022864487:=()
def tw15796646958349725071:=()
def tw4761592559919353692:=()
def tw8679770090800704891:=()
def tw17897829637779783614:=()
def tw3701499096569687340:=()
def tw7162658410469984536:=()
def tw14033396679319858003:=()
def tw18269861594822842966:=()
def tw3988442136532037856:=()
def tw6557648579582264223:=()
def tw14961417807027598595:=()
def tw3021345497362665143:=()
end PySem.W.Fast
open PySem PySem.W PyProof.Rows
set_option maxRecDepth 100000 in
set_option maxHeartbeats 0 in
theorem PySem.Challenge.cw_tierstore_k26_whole_runs_holds : PySem.Challenge.rw_tierstore_k26_whole_runs.Holds := by
 w_on;o_law;k_head;(case hw=>w_witness2)
 k_fill
 refine T26.walk (l:=PySem.Challenge.rw_tierstore_k26_whole_runs) rfl rfl (fun w h Y=>⟨Y.1,Y.2⟩) ?F
 case F =>
  intro w mg fa h KX G LX;refine' T26.all_mk KX G LX ?xa1 ?xl1 ?xc1 ?xk1 ?xa2 ?xl2 ?xc2 ?xk2 ?xa3 ?xl3 ?xc3 ?xk3 ?xa4 ?xl4 ?xc4 ?xk4 ?xa5 ?xl5 ?xc5 ?xk5 ?xa6 ?xl6 ?xc6 ?xk6 ?xa7 ?xl7 ?xc7 ?xk7 ?xa8 ?xl8 ?xc8 ?xk8 ?xa9 ?xl9 ?xc9 ?xk9 ?xa10 ?xl10 ?xc10 ?xk10 ?xa11 ?xl11 ?xc11 ?xk11 ?xa12 ?xl12 ?xc12 ?xk12 ?xa13 ?xl13 ?xc13 ?xk13 ?xa14 ?xl14 ?xc14 ?xk14 ?xa15 ?xl15 ?xc15 ?xk15 ?xa16 ?xl16 ?xc16 ?xk16 ?xa17 ?xl17 ?xc17 ?xk17 ?xa18 ?xl18 ?xc18 ?xk18 ?xa19 ?xl19 ?xc19 ?xk19 ?xa20 ?xl20 ?xc20 ?xk20 ?xa21 ?xl21 ?xc21 ?xk21 ?xch21 ?xa22 ?xl22 ?xc22 ?xk22 ?xa23 ?xl23 ?xc23 ?xk23 ?xa24 ?xl24 ?xc24 ?xk24 ?xa25 ?xl25 ?xc25 ?xk25 ?xa26 ?xl26 ?xc26 ?xk26 ?xa27 ?xl27 ?xc27 ?xk27 ?xa28 ?xl28 ?xc28 ?xk28 ?xa29 ?xl29 ?xc29 ?xk29 ?xa30 ?xl30 ?xc30 ?xk30 ?xa31 ?xl31 ?xc31 ?xk31 ?xa32 ?xl32 ?xc32 ?xk32 ?xa33 ?xl33 ?xc33 ?xk33 ?xa34 ?xl34 ?xc34 ?xk34 ?xa35 ?xl35 ?xc35 ?xk35 ?xa36 ?xl36 ?xc36 ?xk36 ?xa37 ?xl37 ?xc37 ?xk37 ?xa38 ?xl38 ?xc38 ?xk38 ?xa39 ?xl39 ?xc39 ?xk39 ?xa40 ?xl40 ?xc40 ?xk40 ?xa41 ?xl41 ?xc41 ?xk41 ?xa42 ?xl42 ?xc42 ?xk42 ?xa43 ?xl43 ?xc43 ?xk43 ?xa44 ?xl44 ?xc44 ?xk44 ?xa45 ?xl45 ?xc45 ?xk45 ?xa46 ?xl46 ?xc46 ?xk46 ?xa47 ?xl47 ?xc47 ?xk47 ?xa48 ?xl48 ?xc48 ?xk48 ?xa49 ?xl49 ?xc49 ?xk49 ?xa50 ?xl50 ?xc50 ?xk50 ?xa51 ?xl51 ?xc51 ?xk51 ?xa52 ?xl52 ?xc52 ?xk52 ?xa53 ?xl53 ?xc53 ?xk53 ?xa54 ?xl54 ?xc54 ?xk54 ?xa55 ?xl55 ?xc55 ?xk55 ?xa56 ?xl56 ?xc56 ?xk56 ?xch56 ?xa57 ?xl57 ?xc57 ?xk57 ?xa58 ?xl58 ?xc58 ?xk58 ?xa59 ?xl59 ?xc59 ?xk59 ?xa60 ?xl60 ?xc60 ?xk60 ?xa61 ?xl61 ?xc61 ?xk61 ?xa62 ?xl62 ?xc62 ?xk62 ?xtb__law_in_order ?xtb_probe ?xg_FACTORS ?xl_FACTORS ?xg0 ?xg1 ?xg2 ?xg3 ?xg4 ?xg5 ?xg6 ?xg7 ?xg8 ?xg9 ?xg10 ?xg11 ?xg12 ?xg13 ?xg14 ?xg15 ?xg16 ?xg17 ?xz0 ?xz1 ?xz2 ?xz3 ?xz4 ?xz5 ?xz6 ?xz7 ?xz8 ?xz9 ?xz10 ?xz11 ?xz12 ?xz13 ?xz14 ?xz15 ?xz16
  (case xa1=>k_is);(case xl1=>k_is);(case xc1=>k_is);(case xk1=>k_is);(case xa2=>k_is);(case xl2=>k_is)
  (case xc2=>k_is);(case xk2=>k_is);(case xa3=>k_is);(case xl3=>k_is);(case xc3=>k_is);(case xk3=>k_is)
  (case xa4=>k_is);(case xl4=>k_is);(case xc4=>k_is);(case xk4=>k_is);(case xa5=>k_is);(case xl5=>k_is)
  (case xc5=>k_is);(case xk5=>k_is);(case xa6=>k_is);(case xl6=>k_is);(case xc6=>k_is);(case xk6=>k_is)
  (case xa7=>k_is);(case xl7=>k_is);(case xc7=>k_is);(case xk7=>k_is);(case xa8=>k_is);(case xl8=>k_is)
  (case xc8=>k_is);(case xk8=>k_is);(case xa9=>k_is);(case xl9=>k_is);(case xc9=>k_is);(case xk9=>k_is)
  (case xa10=>k_is);(case xl10=>k_is);(case xc10=>k_is);(case xk10=>k_is);(case xa11=>k_is);(case xl11=>k_is)
  (case xc11=>k_is);(case xk11=>k_is);(case xa12=>k_is);(case xl12=>k_is);(case xc12=>k_is);(case xk12=>k_is)
  (case xa13=>k_is);(case xl13=>k_is);(case xc13=>k_is);(case xk13=>k_is);(case xa14=>k_is);(case xl14=>k_is)
  (case xc14=>k_is);(case xk14=>k_is);(case xa15=>k_is);(case xl15=>k_is);(case xc15=>k_is);(case xk15=>k_is)
  (case xa16=>k_is);(case xl16=>k_is);(case xc16=>k_is);(case xk16=>k_is);(case xa17=>k_is);(case xl17=>k_is)
  (case xc17=>k_is);(case xk17=>k_is);(case xa18=>k_is);(case xl18=>k_is);(case xc18=>k_is);(case xk18=>k_is)
  (case xa19=>k_is);(case xl19=>k_is);(case xc19=>k_is);(case xk19=>k_is);(case xa20=>k_is);(case xl20=>k_is)
  (case xc20=>k_is);(case xk20=>k_is);(case xa21=>k_is);(case xl21=>k_is);(case xc21=>k_is);(case xk21=>k_is)
  (case xch21=>kernel_rfl);(case xa22=>k_is);(case xl22=>k_is);(case xc22=>k_is);(case xk22=>k_is);(case xa23=>k_is)
  (case xl23=>k_is);(case xc23=>k_is);(case xk23=>k_is);(case xa24=>k_is);(case xl24=>k_is);(case xc24=>k_is)
  (case xk24=>k_is);(case xa25=>k_is);(case xl25=>k_is);(case xc25=>k_is);(case xk25=>k_is);(case xa26=>k_is)
  (case xl26=>k_is);(case xc26=>k_is);(case xk26=>k_is);(case xa27=>k_is);(case xl27=>k_is);(case xc27=>k_is)
  (case xk27=>k_is);(case xa28=>k_is);(case xl28=>k_is);(case xc28=>k_is);(case xk28=>k_is);(case xa29=>k_is)
  (case xl29=>k_is);(case xc29=>k_is);(case xk29=>k_is);(case xa30=>k_is);(case xl30=>k_is);(case xc30=>k_is)
  (case xk30=>k_is);(case xa31=>k_is);(case xl31=>k_is);(case xc31=>k_is);(case xk31=>k_is);(case xa32=>k_is)
  (case xl32=>k_is);(case xc32=>k_is);(case xk32=>k_is);(case xa33=>k_is);(case xl33=>k_is);(case xc33=>k_is)
  (case xk33=>k_is);(case xa34=>k_is);(case xl34=>k_is);(case xc34=>k_is);(case xk34=>k_is);(case xa35=>k_is)
  (case xl35=>k_is);(case xc35=>k_is);(case xk35=>k_is);(case xa36=>k_is);(case xl36=>k_is);(case xc36=>k_is)
  (case xk36=>k_is);(case xa37=>k_is);(case xl37=>k_is);(case xc37=>k_is);(case xk37=>k_is);(case xa38=>k_is)
  (case xl38=>k_is);(case xc38=>k_is);(case xk38=>k_is);(case xa39=>k_is);(case xl39=>k_is);(case xc39=>k_is)
  (case xk39=>k_is);(case xa40=>k_is);(case xl40=>k_is);(case xc40=>k_is);(case xk40=>k_is);(case xa41=>k_is)
  (case xl41=>k_is);(case xc41=>k_is);(case xk41=>k_is);(case xa42=>k_is);(case xl42=>k_is);(case xc42=>k_is)
  (case xk42=>k_is);(case xa43=>k_is);(case xl43=>k_is);(case xc43=>k_is);(case xk43=>k_is);(case xa44=>k_is)
  (case xl44=>k_is);(case xc44=>k_is);(case xk44=>k_is);(case xa45=>k_is);(case xl45=>k_is);(case xc45=>k_is)
  (case xk45=>k_is);(case xa46=>k_is);(case xl46=>k_is);(case xc46=>k_is);(case xk46=>k_is);(case xa47=>k_is)
  (case xl47=>k_is);(case xc47=>k_is);(case xk47=>k_is);(case xa48=>k_is);(case xl48=>k_is);(case xc48=>k_is)
  (case xk48=>k_is);(case xa49=>k_is);(case xl49=>k_is);(case xc49=>k_is);(case xk49=>k_is);(case xa50=>k_is)
  (case xl50=>k_is);(case xc50=>k_is);(case xk50=>k_is);(case xa51=>k_is);(case xl51=>k_is);(case xc51=>k_is)
  (case xk51=>k_is);(case xa52=>k_is);(case xl52=>k_is);(case xc52=>k_is);(case xk52=>k_is);(case xa53=>k_is)
  (case xl53=>k_is);(case xc53=>k_is);(case xk53=>k_is);(case xa54=>k_is);(case xl54=>k_is);(case xc54=>k_is)
  (case xk54=>k_is);(case xa55=>k_is);(case xl55=>k_is);(case xc55=>k_is);(case xk55=>k_is);(case xa56=>k_is)
  (case xl56=>k_is);(case xc56=>k_is);(case xk56=>k_is);(case xch56=>kernel_rfl);(case xa57=>k_is);(case xl57=>k_is)
  (case xc57=>k_is);(case xk57=>k_is);(case xa58=>k_is);(case xl58=>k_is);(case xc58=>k_is);(case xk58=>k_is)
  (case xa59=>k_is);(case xl59=>k_is);(case xc59=>k_is);(case xk59=>k_is);(case xa60=>k_is);(case xl60=>k_is)
  (case xc60=>k_is);(case xk60=>k_is);(case xa61=>k_is);(case xl61=>k_is);(case xc61=>k_is);(case xk61=>k_is)
  (case xa62=>k_is);(case xl62=>k_is);(case xc62=>k_is);(case xk62=>k_is);(case xtb__law_in_order=>kernel_rfl);(case xtb_probe=>kernel_rfl)
  (case xg_FACTORS=>k_is);(case xl_FACTORS=>k_is);(case xg0=>k_is);(case xg1=>k_is);(case xg2=>k_is);(case xg3=>k_is)
  (case xg4=>k_is);(case xg5=>k_is);(case xg6=>k_is);(case xg7=>k_is);(case xg8=>k_is);(case xg9=>k_is)
  (case xg10=>k_is);(case xg11=>k_is);(case xg12=>k_is);(case xg13=>k_is);(case xg14=>k_is);(case xg15=>k_is)
  (case xg16=>k_is);(case xg17=>k_is);(case xz0=>k_is);(case xz1=>k_is);(case xz2=>k_is);(case xz3=>k_is)
  (case xz4=>k_is);(case xz5=>k_is);(case xz6=>k_is);(case xz7=>k_is);(case xz8=>k_is);(case xz9=>k_is)
  (case xz10=>k_is);(case xz11=>k_is);(case xz12=>k_is);(case xz13=>k_is);(case xz14=>k_is);(case xz15=>k_is)
  (case xz16=>k_is)
