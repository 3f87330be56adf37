import PyProof.Rows.All
import Wide.All
import OpenK.AllK
import Wide.FinOn
import Lean
import PyProof.EqAt
import PyProof.EqKinds
import PyProof.TupleCall
import PyProof.Rows.Range3
import PyProof.Rows.FStr
import PyProof.MeetsStr
import PyProof.FitsReplace
import PyProof.Rows.ListMulArg
import KE.KSortTup
import KE.LcSums
import PyProof.SeqI3
import KE.KMinBuiltin
import PyProof.ListRange
import PyProof.TupleOfSeq
import PySem.Challenge.RW_holdplaces_k90_webs_and_places_written
set_option Elab.async false
set_option bootstrap.genMatcherCode false
set_option maxHeartbeats 8000000
set_option maxRecDepth 100000
set_option linter.all false
noncomputable section
open PySem.Builtin.Tuple renaming tupleExact→cy
open Option renaming bind_eq_some_iff→az,map_eq_some_iff→a9,bind_eq_bind→aA
open List renaming mem_append_right→bF,mem_cons_of_mem→aL,mem_cons_self→aM,size_toArray→aN,lookup_cons→aV,not_mem_nil→bc,length_map→bK,replicate→bt,mem_cons→aI,map_cons→aY,mem_map→aQ,range→aZ
open PySem renaming mem_of_lookup→bG,wpAny_truthy_bool→ba,wpAny_newObj_type→b9,Comprehension→bI,bootBuiltins→bg,mainGlobals→ah,sizeLine_eq→bh,wpAny_bind→au,wpAny_pure→aD,wpAny_mono→bq,compareOp→aO,cellsFrom→aP,sizeLine→aF,NameKind→aG,starEach→aK,FuncData→a8,Program→aw,Shared→af,Around→av,Value→ae,wpAny→ak,model→ao,World→ar,Scope→aH
open PySem.W renaming hideAll_get→b7,mg_none_of→b8,kia_one→bf,kitOne→aW,exmOne→bj,keepIn→bH,subIn→ax,nsIn→ai,Frag→aq,fnOf→bw
open Nat renaming lt_of_lt_of_le→aX,lt_irrefl→bp,le_trans→aS,ne_of_lt→aU,le_refl→aC
open Bool renaming false_eq_true→bJ,false_ne_true→bT,not_eq_true'→a_,and_eq_true→aB,or_eq_true→bL
open Option.some renaming injEq→bB,inj→br
open ForInStep renaming yield→bU
open PySem.NameKind renaming free→bu
open PySem.Str renaming ofString→ag
open PySem.Heap renaming lt_size→aE
open False renaming elim→aJ
open PySem.Value renaming bool→a7
open And renaming intro→aj
open PyProof.Rows renaming Keyed→ay
set_option Elab.async false
namespace L2
open PySem PySem.Spec PyProof.Rows
abbrev Key:=Sum Int Str
noncomputable def ka:Key->ae->Bool
 | .inl k,v=>ae.isInt k v
 | .inr x,v=>ae.isStrOf x v
noncomputable def wg(w:ar):Key->Int
 | .inl k=>hashInt k
 | .inr x=>hashStr w x
theorem zA:∀{k:Key}{v:ae},ka k v=true->(∃i t,k=Sum.inl i/\v=ae.int i t)\/(∃x t,k=Sum.inr x/\v=ae.str x t)
 | .inl i,v,h=>by
  obtain⟨t,e⟩:=ae.isInt_shape (k:=i) (v:=v) h;exact .inl ⟨i,t,rfl,e⟩
 | .inr x,v,h=>by
  obtain⟨t,e⟩:=ae.isStrOf_shape (x:=x) (v:=v) h;exact .inr ⟨x,t,rfl,e⟩
theorem mq(a b:Int):decide ((Sum.inl a:Key)=Sum.inl b)=(a==b):=by
 by_cases e:a=b
 ·subst e;simp
 ·have h:¬ (Sum.inl a:Key)=Sum.inl b:=λq=>e (Sum.inl.inj q)
  rw[decide_eq_false h];exact(beq_eq_false_iff_ne.mpr e).symm
theorem wW(a b:Str):decide ((Sum.inr a:Key)=Sum.inr b)=decide (a=b):=by
 by_cases e:a=b
 ·subst e;simp
 ·have h:¬ (Sum.inr a:Key)=Sum.inr b:=λq=>e (Sum.inr.inj q)
  rw[decide_eq_false h,decide_eq_false e]
theorem xv(a:Int)(b:Str):decide ((Sum.inl a:Key)=Sum.inr b)=false:=decide_eq_false (λq=>nomatch q)
theorem nj(a:Str)(b:Int):decide ((Sum.inr a:Key)=Sum.inl b)=false:=decide_eq_false (λq=>nomatch q)
noncomputable def iC(prog:aw)(w:ar):PySem.KeyKind prog w Key where
 is:=ka
 hash:=wg w
 inj:=λv a b ha hb=>by
  rcases zA ha with ⟨i,t,rfl,rfl⟩|⟨x,t,rfl,rfl⟩
  ·rcases zA hb with ⟨j,u,rfl,e⟩|⟨y,u,rfl,e⟩
   ·injection e with e1 _;rw[e1]
   ·exact nomatch e
  ·rcases zA hb with ⟨j,u,rfl,e⟩|⟨y,u,rfl,e⟩
   ·exact nomatch e
   ·injection e with e1 _;rw[e1]
 byValue:=λk v h=>by
  rcases zA h with ⟨i,t,rfl,rfl⟩|⟨x,t,rfl,rfl⟩<;>rfl
 pyHash:=λhv h=>by
  rcases zA hv with ⟨i,t,rfl,rfl⟩|⟨x,t,rfl,rfl⟩
  ·exact wpAny_pyHash_int h
  ·exact wpAny_pyHash_str h
 eqBool:=λhu hv h=>by
  rcases zA hu with ⟨i,t,rfl,rfl⟩|⟨x,t,rfl,rfl⟩
  ·rcases zA hv with ⟨j,u,rfl,rfl⟩|⟨y,u,rfl,rfl⟩
   ·rw[mq]at h;exact wpAny_eqBool_int h
   ·rw[xv]at h;exact SeqAt.EqAt.int_str i t y u _ _ _ _ h
  ·rcases zA hv with ⟨j,u,rfl,rfl⟩|⟨y,u,rfl,rfl⟩
   ·rw[nj]at h;exact SeqAt.EqAt.str_int x t j u _ _ _ _ h
   ·rw[wW]at h;exact wpAny_eqBool_str h
 «strs»:=λk x t v h=>by
  rcases zA h with ⟨i,u,rfl,e⟩|⟨y,u,rfl,e⟩
  ·exact nomatch e
  ·injection e with e1 _
   subst e1;cases v<;>rfl
inductive V where
 |non|bl (b:Bool)|int (i:Int)|str (x:Str)|byt (b:Array UInt8)|flt (b:UInt64)|ref (a:Addr)|ty (n:String)
 deriving DecidableEq
noncomputable def RelV:V->ae->Prop
 | .non,u=>u=ae.none
 | .bl b,u=>u=a7 b
 | .int i,u=>∃t,u=ae.int i t
 | .str x,u=>∃t,u=ae.str x t
 | .byt b,u=>∃t,u=ae.bytes b t
 | .flt b,u=>∃t,u=ae.float b t
 | .ref a,u=>u=ae.ref a
 | .ty n,u=>u=ae.type n
abbrev Vals:List V->List ae->Prop:=Paired RelV
theorem Vals.length{xs:List V}{us:List ae}(r:Vals xs us):xs.length=us.length:=Paired.length r
theorem Vals.get:∀{xs:List V}{us:List ae}{i:Nat}{x:V},Vals xs us->xs[i]? = some x->∃u,us[i]? = some u/\RelV x u
 |_,_,_,_,.nil,e=>by simp at e
 |_,_,0,_,.cons r _,e=>by simp at e;subst e;exact⟨_,rfl,r⟩
 |_,_,i+1,x,.cons _ t,e=>by
  obtain⟨u,h1,h2⟩:=Vals.get (i:=i) (x:=x) t (by simpa using e);exact⟨u,by simpa using h1,h2⟩
theorem Vals.set{x:V}{u:ae}(r:RelV x u):∀{xs:List V}{us:List ae} (i:Nat),Vals xs us->Vals (xs.set i x) (us.set i u)
 |_,_,_,.nil=>.nil
 |_,_,0,.cons _ t=>.cons r t
 |_,_,i+1,.cons q t=>.cons q (Vals.set r i t)
theorem Vals.append:∀{xs ys:List V}{us ws:List ae},Vals xs us->Vals ys ws->Vals (xs++ys) (us++ws)
 |_,_,_,_,.nil,s=>s
 |_,_,_,_,.cons r t,s=>.cons r (Vals.append t s)
theorem Vals.take:∀{xs:List V}{us:List ae} (n:Nat),Vals xs us->Vals (xs.take n) (us.take n)
 |_,_,0,_=>.nil
 |_,_,_+1,.nil=>.nil
 |_,_,n+1,.cons r t=>.cons r (Vals.take n t)
theorem Vals.drop:∀{xs:List V}{us:List ae} (n:Nat),Vals xs us->Vals (xs.drop n) (us.drop n)
 |_,_,0,r=>r
 |_,_,_+1,.nil=>.nil
 |_,_,n+1,.cons _ t=>Vals.drop n t
noncomputable def hZ:Option V->Option ae->Prop
 |some v,some u=>RelV v u
 |none,none=>True
 |_,_=>False
noncomputable def KV{κ:Type}:List (κ×V)->List (κ×ae)->Prop:=Paired λ(p:κ×V) (q:κ×ae)=>p.1=q.1/\RelV p.2 q.2
noncomputable def kV:Key->V
 | .inl i=>.int i
 | .inr x=>.str x
inductive HO where
 |lst (xs:List V)
 |tup (xs:List V)
 |dK (kvs:List (Key×V))|dT (kvs:List (List Key×V))
 |set (S:Int->Bool) (n:Nat)
 |ins (C dx:Addr) (fs:List (Str×V))
 |own (x:Addr)
 |xd (fs:List (Str×V))
 |met (f x:Addr)
 |rng (lo hi:Int)
 |frz (o:Obj) (u:HO)
 |tbl (ps:Array ae)
 |ext (φ:Heap->Prop)
abbrev Hp:=Addr->Option HO
noncomputable def upd(H:Hp)(a:Addr)(o:HO):Hp:=λb=>if b=a then some o else H b
theorem zm{H:Hp}{a:Addr}{o:HO}:upd H a o a=some o:=by unfold upd;rw[if_pos rfl]
theorem qg{H:Hp}{a b:Addr}{o:HO}(h:b≠a):upd H a o b=H b:=by unfold upd;rw[if_neg h]
theorem fv{H:Hp}{a b:Addr}{o:HO}(h:H a=some o)(h':H b=none):a≠b:=by
 intro e;subst e;rw[h]at h';cases h'
section
variable(P:aw)(w:ar)
noncomputable def zy(H:Hp)(h:Heap)(a:Addr):HO->Prop
 | .lst xs=>xs.length<=aF/\∃(its:List ae) (n:Nat),Vals xs its/\h.get? a=some {cls:=.type "list",data:=.seq its.toArray n}
 | .tup xs=>xs.length<=aF/\∃its:List ae,Vals xs its/\IsTup h a its.toArray
 | .dK kvs=>kvs.length<=aF/\(a==sysModules)=false/\∃vs,KV kvs vs/\h.DictOf (iC P w) a vs
 | .dT kvs=>kvs.length<=aF/\(a==sysModules)=false/\∃xs:List (List Key×Addr×ae),
   Paired (λ(p:List Key×V) (q:List Key×Addr×ae)=>p.1=q.1/\H q.2.1=some (.tup (p.1.map kV))/\RelV p.2 q.2.2) kvs xs /\
   ∃o es ep,h.get? a=some o/\o.ExactDict/\o.data=.dict es ep/\es.toList=xs.map (entryOfKey (tupleKind (iC P w)))/\(xs.map (·.1)).Nodup
 | .set S n=>h.SetOf (intKind P w) a S n
 | .ins C dx fs=>H dx=some (.own a)/\fs.length<=1000/\dx≠a/\h.get? a=some (PySem.W.instObj C dx) /\
   ∃mA,h.Ns1 dx mA/\(∀f,hZ (fs.lookup f) (mA f))/\PySem.Within mA (fs.map (·.1))
 | .own _=>∃o,h.get? a=some o
 | .xd fs=>∃mA,h.Ns1 a mA/\∀f,hZ (fs.lookup f) (mA f)
 | .rng lo hi=>∃t u v,h.get? a=some {cls:=.type "range",data:=.fields #[.int lo t,.int hi u,.int 1 v]}
 | .frz o u=>h.get? a=some o/\zy H h a u
 | .tbl ps=>h.get? a=some {cls:=.none,data:=.fields ps}
 | .met f x=>h.get? a=some (PySem.W.methodObj (.ref f) (.ref x))
 | .ext φ=>φ h/\(∃o,h.get? a=some o)/\∀h1 h2:Heap,φ h1->(∀o,h1.get? a=some o->h2.get? a=some o)->φ h2
noncomputable def HOk(H:Hp)(h:Heap):Prop:=∀a o,H a=some o->zy P w H h a o
end
section
variable{P:aw}{w:ar}{H H':Hp}{h h':Heap}{a:Addr}{o:HO}
theorem zy.lt(x:zy P w H h a o):a<h.objs.size:=by
 cases o with
 |lst xs=>obtain⟨_,_,_,_,e⟩:=x;exact aE e
 |tup xs=>obtain⟨_,_,_,p⟩:=x;exact p.lt
 |dK kvs=>obtain⟨_,_,_,_,o,_,_,e,_⟩:=x;exact aE e
 |dT kvs=>obtain⟨_,_,_,_,o,_,_,e,_⟩:=x;exact aE e
 |set S n=>obtain⟨o,_,_,_,e,_⟩:=x;exact aE e
 |ins C dx fs=>obtain⟨_,_,_,e,_⟩:=x;exact aE e
 |own y=>obtain⟨_,e⟩:=x;exact aE e
 |xd fs=>obtain⟨_,⟨_,_,_,e,_⟩,_⟩:=x;exact aE e
 |rng lo hi=>obtain⟨_,_,_,e⟩:=x;exact aE e
 |frz ob u=>obtain⟨e,_⟩:=x;exact aE e
 |tbl ps=>exact aE (show h.get? a=some _ from x)
 |met f y=>exact aE (show h.get? a=some _ from x)
 |ext φ=>obtain⟨_,⟨_,e⟩,_⟩:=x;exact aE e
theorem Paired.mapP{α β:Type}{F G:α->β->Prop}:∀{l₁:List α}{l₂:List β},Paired F l₁ l₂->(∀a b,F a b->G a b)->Paired G l₁ l₂
 |_,_,.nil,_=>.nil
 |_,_,.cons r t,f=>.cons (f _ _ r) (Paired.mapP t f)
theorem zy.stay(x:zy P w H h a o)(k:∀b u,(b=a\/H b=some (.own a))->h.get? b=some u->h'.get? b=some u)
  (ho:∀b,H b=some (.own a)->H' b=some (.own a)) (ht:∀b xs,H b=some (.tup xs)->H' b=some (.tup xs)):zy P w H' h' a o:=by
 induction o with
 |lst xs=>obtain⟨z,its,n,r,e⟩:=x;exact⟨z,its,n,r,k _ _ (.inl rfl) e⟩
 |tup xs=>obtain⟨z,its,r,ob,e,c⟩:=x;exact⟨z,its,r,ob,k _ _ (.inl rfl) e,c⟩
 |dK kvs=>obtain⟨z,y,vs,r,ob,es,ep,e,c⟩:=x;exact⟨z,y,vs,r,ob,es,ep,k _ _ (.inl rfl) e,c⟩
 |dT kvs=>
  obtain⟨z,y,xs,r,ob,es,ep,e,c⟩:=x;exact⟨z,y,xs,Paired.mapP r λp q z=>⟨z.1,ht _ _ z.2.1,z.2.2⟩,ob,es,ep,k _ _ (.inl rfl) e,c⟩
 |set S n=>obtain⟨ob,es,ep,t,e,c⟩:=x;exact⟨ob,es,ep,t,k _ _ (.inl rfl) e,c⟩
 |ins C dx fs=>
  obtain⟨d,z,ne,e,mA,⟨od,es,ep,e2,c⟩,r⟩:=x;exact⟨ho _ d,z,ne,k _ _ (.inl rfl) e,mA,⟨od,es,ep,k _ _ (.inr d) e2,c⟩,r⟩
 |own y=>obtain⟨ob,e⟩:=x;exact⟨ob,k _ _ (.inl rfl) e⟩
 |xd fs=>obtain⟨mA,⟨od,es,ep,e,c⟩,r⟩:=x;exact⟨mA,⟨od,es,ep,k _ _ (.inl rfl) e,c⟩,r⟩
 |rng lo hi=>obtain⟨t,u,v,e⟩:=x;exact⟨t,u,v,k _ _ (.inl rfl) e⟩
 |frz ob u ih=>obtain⟨e,q⟩:=x;exact⟨k _ _ (.inl rfl) e,ih q⟩
 |tbl ps=>
  have e:h.get? a=some {cls:=.none,data:=.fields ps}:=x;show h'.get? a=some {cls:=.none,data:=.fields ps};exact k a _ (.inl rfl) e
 |met f y=>
  have e:h.get? a=some (PySem.W.methodObj (.ref f) (.ref y)):=x;show h'.get? a=some (PySem.W.methodObj (.ref f) (.ref y));exact k a _ (.inl rfl) e
 |ext φ=>obtain⟨p,⟨o,e⟩,st⟩:=x;exact⟨st _ _ p λo q=>k _ _ (.inl rfl) q,⟨o,k _ _ (.inl rfl) e⟩,st⟩
theorem HOk.lt(x:HOk P w H h)(e:H a=some o):a<h.objs.size:=(x a o e).lt
theorem HOk.fresh(x:HOk P w H h)(e:h.objs.size<=a):H a=none:=by
 cases q:H a with
 |none=>rfl
 |some u=>exact absurd (aX (x.lt q) e) (bp _)
theorem HOk.kept(x:HOk P w H h)(k:∀b u,h.get? b=some u->h'.get? b=some u):HOk P w H h':=λa o e=>
 (x a o e).stay (λb u _ q=>k b u q) (λ_ q=>q) λ_ _ q=>q
theorem HOk.laid(x:HOk P w H h)(k:∀b u,h.get? b=some u->h'.get? b=some u)(hp:h.objs.size<=a)(new:zy P w (upd H a o) h' a o):HOk P w (upd H a o) h':=λb u e=>by
 have hn:=x.fresh hp;by_cases hb:b=a
 ·subst hb;rw[zm]at e;cases e;exact new
 ·rw[qg hb]at e;exact(x b u e).stay (λc v _ q=>k c v q) (λc q=>by rw[qg (fv q hn)];exact q) λc xs q=>by rw[qg (fv q hn)];exact q
end
noncomputable def Rd(H:Hp)(a:Addr)(u:HO):Prop:=H a=some u\/∃o,H a=some (.frz o u)
theorem Rd.of{H:Hp}{a:Addr}{u:HO}(h:H a=some u):Rd H a u:=.inl h
theorem Rd.ok{P:aw}{w:ar}{H:Hp}{h:Heap}{a:Addr}{u:HO}(r:Rd H a u)(x:HOk P w H h):zy P w H h a u:=by
 rcases r with r|⟨o,r⟩
 ·exact x a u r
 ·obtain⟨_,q⟩:=x a _ r;exact q
noncomputable def Mut:Option HO->Prop
 |some (.lst _)=>True
 |some (.dK _)=>True
 |some (.dT _)=>True
 |some (.set _ _)=>True
 |some (.ins _ _ _)=>True
 |some (.ext _)=>True
 |_=>False
section
variable{P:aw}{w:ar}{H:Hp}{h h':Heap}{x e:Addr}{o':HO}
theorem HOk.write(ok:HOk P w H h)(mu:Mut (H x))(he:e=x\/H e=some (.own x))(k:∀b u,b≠e->h.get? b=some u->h'.get? b=some u)(heo:∃u,h'.get? e=some u)
  (new:zy P w (upd H x o') h' x o'):HOk P w (upd H x o') h':=λb u q=>by
 have nown:∀c y,H c=some (.own y)->c≠x:=λc y r z=>by subst z;rw[r]at mu;exact mu
 have ntup:∀c xs,H c=some (.tup xs)->c≠x:=λc xs r z=>by subst z;rw[r]at mu;exact mu
 by_cases hb:b=x
 ·subst hb;rw[zm]at q;cases q;exact new
 ·rw[qg hb]at q;by_cases hbe:b=e
  ·have q':H b=some (.own x):=by
    rcases he with z|z
    ·exact absurd (hbe.trans z) hb
    ·rw[hbe];exact z
   rw[q]at q';cases q';obtain⟨v,hv⟩:=heo;exact⟨v,by rw[hbe];exact hv⟩
  ·refine(ok b u q).stay (λc v hc r=>k c v ?_ r) (λc r=>by rw[qg (nown c b r)];exact r) λc xs r=>by rw[qg (ntup c xs r)];exact r
   rcases hc with rfl|hc
   ·exact hbe
   ·rintro rfl;rcases he with z|z
    ·exact nown c b hc z
    ·rw[hc]at z;cases z;exact hb rfl
end
structure Un(fs ex:List Addr)(H H':Hp)(h h':Heap):Prop where
 keep:∀b o,h.get? b=some o->H b=none->b∉fs->b∉ex->h'.get? b=some o
 slot:∀b o,h.get? b=some o->H b=none->b∈fs->b∉ex->∃sl,h'.get? b=some {o with slots:=sl}
 free:∀b o,h.get? b=some o->H b=none->b∉ex->H' b=none
 there:∀b o,h.get? b=some o->b∉ex->∃o',h'.get? b=some o'
 tups:∀b xs,H b=some (.tup xs)->H' b=some (.tup xs)
 frzs:∀b o u,H b=some (.frz o u)->H' b=some (.frz o u)
 tbls:∀b ps,H b=some (.tbl ps)->∃more,H' b=some (.tbl (ps++more))
section
variable{fs fs' ex ex':List Addr}{H H1 H2:Hp}{h h1 h2 h':Heap}{a x e:Addr}{o:HO}
theorem Un.any(u:Un fs ex H H1 h h1){b:Addr}{ob:Obj}(q:h.get? b=some ob)(n:H b=none)(hx:b∉ex):∃sl,h1.get? b=some {ob with slots:=sl}:=by
 by_cases hb:b∈fs
 ·exact u.slot b ob q n hb hx
 ·exact⟨ob.slots,u.keep b ob q n hb hx⟩
theorem Un.kept(k:∀b u,h.get? b=some u->h'.get? b=some u):Un fs ex H H h h':=
 ⟨λb ob q _ _ _=>k b ob q,λb ob q _ _ _=>⟨ob.slots,k b ob q⟩,λ_ _ _ n _=>n,λb ob q _=>⟨ob,k b ob q⟩,λ_ _ q=>q,λ_ _ _ q=>q,λ_ ps q=>⟨#[],by rw[q];simp⟩⟩
theorem Un.refl:Un fs ex H H h h:=Un.kept λ_ _ q=>q
theorem Un.laid(k:∀b u,h.get? b=some u->h'.get? b=some u)(hp:h.objs.size<=a)(hn:H a=none):Un fs ex H (upd H a o) h h' where
 keep:=λb u q _ _ _=>k b u q
 slot:=λb u q _ _ _=>⟨u.slots,k b u q⟩
 free:=λb u q n _=>by rw[qg (aU (aX (aE q) hp))];exact n
 there:=λb u q _=>⟨u,k b u q⟩
 tups:=λb xs q=>by rw[qg (fv q hn)];exact q
 frzs:=λb u xs q=>by rw[qg (fv q hn)];exact q
 tbls:=λb ps q=>⟨#[],by rw[qg (fv q hn),q];simp⟩
theorem Un.write(mu:Mut (H x))(he:e=x\/H e=some (.own x))(k:∀b u,b≠e->h.get? b=some u->h'.get? b=some u)(heo:∃u,h'.get? e=some u):Un fs ex H (upd H x o) h h':=by
 have hx:∀b,H b=none->b≠x:=λb n z=>by subst z;rw[n]at mu;exact mu
 have hb:∀b,H b=none->b≠e:=λb n z=>by
  subst z;rcases he with r|r
  ·exact hx b n r
  ·rw[n]at r;cases r
 have hm:∀b u,H b=some u->¬ Mut (some u)->b≠x:=λb u q nm z=>by subst z;rw[q]at mu;exact nm mu
 refine⟨λb u q n _ _=>k b u (hb b n) q,λb u q n _ _=>⟨u.slots,k b u (hb b n) q⟩,λb u q n _=>by rw[qg (hx b n)];exact n,λb u q _=>?_,
  λb xs q=>by rw[qg (hm b _ q λz=>z)];exact q,λb u xs q=>by rw[qg (hm b _ q λz=>z)];exact q,λb ps q=>⟨#[],by rw[qg (hm b _ q λz=>z),q];simp⟩⟩
 by_cases hbe:b=e
 ·subst hbe;exact heo
 ·exact⟨u,k b u hbe q⟩
end
noncomputable def trk(h:Heap)(H:Hp):List Addr:=(aZ h.objs.size).filter λa=>(H a).isSome
noncomputable def cY(h:Heap)(H:Hp):Heap:=PySem.W.hideAll h (trk h H)
theorem uw(h:Heap)(H:Hp):(cY h H).objs.size=h.objs.size:=PySem.W.hideAll_size _ _
theorem wu{h:Heap}{H:Hp}{b:Addr}{o:Obj}(e:h.get? b=some o)(n:H b=none):(cY h H).get? b=some o:=
 b7 _ e λhm=>by
  have q:(H b).isSome=true:=(List.mem_filter.mp hm).2;rw[n]at q;simp at q
theorem nZ{h:Heap}{H:Hp}{b:Addr}{o:Obj}(e:(cY h H).get? b=some o):h.get? b=some o/\H b=none:=by
 have e':h.get? b=some o:=PySem.W.of_hideAll (trk h H) e;refine⟨e',?_⟩;cases q:H b with
 |none=>rfl
 |some x=>
  have hm:b∈trk h H:=List.mem_filter.mpr ⟨List.mem_range.mpr (aE e'),by simp[q]⟩;have z:(cY h H).get? b=none:=PySem.W.hideAll_none (trk h H) hm;rw[z]at e;cases e
noncomputable def gj(g h:Heap)(L:Addr):List (Addr×Obj):=(aZ h.objs.size).filterMap λa=>if a=L\/(g.get? a).isSome=true then none else (h.get? a).map λo=>(a,o)
theorem ke{g h:Heap}{L a:Addr}{o:Obj}(h1:a≠L)(h2:g.get? a=none)(h3:h.get? a=some o):(a,o)∈gj g h L:=
 List.mem_filterMap.mpr ⟨a,List.mem_range.mpr (aE h3),by simp[h1,h2,h3]⟩
theorem wZ{g h:Heap}{L:Addr}{p:Addr×Obj}(hp:p∈gj g h L):p.1≠L/\g.get? p.1=none/\h.get? p.1=some p.2:=by
 obtain⟨b,_,e⟩:=List.mem_filterMap.mp hp;split at e
 ·cases e
 ·rename_i hn
  cases q:h.get? b with
  |none=>rw[q]at e;simp at e
  |some u=>
   rw[q]at e;simp only[Option.map_some,bB]at e;subst e;refine⟨λz=>hn (.inl z),?_,q⟩;show g.get? b=none;cases r:g.get? b with
   |none=>rfl
   |some v=>exact(hn (.inr (by simp[r]))).elim
noncomputable def rest(g h:Heap)(L d:Addr):List (Addr×Obj):=(gj g h L).filter λp=>decide (p.1≠d)
theorem uo{g h:Heap}{L:Addr}:News g L h (gj g h L):=λp hp=>let ⟨a,b,c⟩:=wZ hp;⟨c,a,b⟩
structure Mod(K:aq)(mg:Str->Option ae)(base:Heap):Prop where
 kin:K.In base
 glob:base.Ns ah mg
 blt:∃mb,base.Ns builtinsNs mb/\∀x:Str,x≠"__name__"->mb x=bg x
 nolimit:base.NoLimit
structure Cx where
 prog:aw
 w:ar
 K:aq
 mg:Str->Option ae
 base:Heap
 A:av
 N:List Str
 s₀:af
 H₀:Hp
 env:Env
 outer:List Env
 stack:List Env
 ex:List Addr
 fn:Str->Bool
 calm:Bool
 pn:List (Addr×Obj)
 xe:ae->af->Prop
noncomputable def frs(l:List Env):List Addr:=l.filterMap (·.frame)
abbrev Cx.fs(X:Cx):List Addr:=frs X.outer
noncomputable def ez(sc:aH)(x:Str):Prop:=sc.names.lookup x=some .local\/sc.names.lookup x=some .cell\/sc.names.lookup x=some .free
noncomputable def Loc(sc:aH)(x:Str):Prop:=sc.names.lookup x=some .local\/sc.names.lookup x=some .cell
noncomputable def Look(env:Env)(h:Heap)(m:Str->Option ae)(x:Str)(u:ae):Prop:=
 (env.kindOf x=some .local/\m x=some u)\/((env.kindOf x=some .cell\/env.kindOf x=some .free)/\∃c,env.cells.lookup x=some c/\h.IsCell c (some u))
structure Cx.Ok(X:Cx):Prop where
 mod:Mod X.K X.mg X.base
 kind:X.env.scope.kind=.function
 glob:X.env.globals=ah
 blt:X.env.builtins=builtinsNs
 above:X.s₀.heap.objs.size<=X.env.locals
 inj:∀x y c,X.env.cells.lookup x=some c->X.env.cells.lookup y=some c->x=y
 has:∀x,(X.env.kindOf x=some .cell\/X.env.kindOf x=some .free)->∃c,X.env.cells.lookup x=some c
 cab:∀x c,X.fn x=true->X.env.cells.lookup x=some c->X.s₀.heap.objs.size<=c
 hd:X.calm=true->X.A.handled=none
 frames:X.A.frames=some X.stack
 stk:X.stack=X.outer\/(X.stack=X.env::X.outer/\X.env.frame=some X.env.locals)
 exf:∀b∈X.ex,b≠X.env.locals/\∀x c,X.env.cells.lookup x=some c->c≠b
 bs:∀b o,X.base.get? b=some o->X.s₀.heap.get? b=some o/\X.H₀ b=none
 bsz:X.base.objs.size<=X.s₀.heap.objs.size
 noex:∀b o,X.base.get? b=some o->b∉X.ex
 exfs:∀b∈X.ex,b∉X.fs
 funs:X.s₀.heap.FunFrames X.base X.outer
 frf:∀b∈X.fs,X.H₀ b=none
structure Inv(X:Cx)(pins:List (Addr×Obj))(σ:List (Option V))(H:Hp)(s:af):Prop where
 ok:X.Ok
 os:s.os=X.s₀.os
 bare:AllBare s.gens
 base:Un X.fs X.ex X.H₀ H X.s₀.heap s.heap
 loc:∃m,s.heap.Ns X.env.locals m/\∀(i:Nat) (x:Str) (v:V),X.N[i]? = some x->σ[i]? = some (some v)->ez X.env.scope x->∃u,RelV v u/\Look X.env s.heap m x u
 cell:∀x c,X.env.cells.lookup x=some c->∃v,s.heap.IsCell c v
 free:H X.env.locals=none
 freeC:∀x c,X.env.cells.lookup x=some c->H c=none
 pin:∀p∈X.pn++pins,s.heap.get? p.1=some p.2/\H p.1=none/\p.1≠X.env.locals/\p.1∉X.fs/\∀v,p.2.data≠.cell v
 hok:HOk X.prog X.w H s.heap
 len:σ.length=X.N.length
section
variable{X:Cx}{pins:List (Addr×Obj)}{σ:List (Option V)}{H H':Hp}{s:af}{h':Heap}
theorem Cx.Ok.nofr(ok:X.Ok){b:Addr}{o:Obj}(e:X.base.get? b=some o):b∉X.fs:=λhb=>by
 have:=(ok.funs.mem hb).1;rw[e]at this;cases this
theorem Inv.bs(I:Inv X pins σ H s):∀b o,X.base.get? b=some o->s.heap.get? b=some o/\H b=none:=λb o e=>
 ⟨I.base.keep b o (I.ok.bs b o e).1 (I.ok.bs b o e).2 (I.ok.nofr e) (I.ok.noex b o e),I.base.free b o (I.ok.bs b o e).1 (I.ok.bs b o e).2 (I.ok.noex b o e)⟩
theorem Inv.bk(I:Inv X pins σ H s):∀b o,X.base.get? b=some o->s.heap.get? b=some o:=λb o e=>(I.bs b o e).1
theorem Inv.mod(I:Inv X pins σ H s):Mod X.K X.mg X.base:=I.ok.mod
theorem Inv.kIn(I:Inv X pins σ H s):X.K.In s.heap:=I.ok.mod.kin.keeps I.bk
theorem Inv.nolimit(I:Inv X pins σ H s):s.heap.NoLimit:=I.ok.mod.nolimit.keeps I.bk
theorem Inv.fr(I:Inv X pins σ H s):∃m,Fr X.base X.env.locals s.heap m:=
 let ⟨m,hn,_⟩:=I.loc
 ⟨m,hn,I.bk,aS I.ok.bsz I.ok.above⟩
theorem Inv.lt(I:Inv X pins σ H s):X.env.locals<s.heap.objs.size:=let ⟨_,hn,_⟩:=I.loc;hn.lt
theorem Inv.sz(I:Inv X pins σ H s):X.s₀.heap.objs.size<=s.heap.objs.size:=aS I.ok.above (Nat.le_of_lt I.lt)
theorem Inv.nofs(I:Inv X pins σ H s){a:Addr}(h:s.heap.objs.size<=a):a∉X.fs:=λhb=>by
 obtain⟨_,o,ho,_⟩:=I.ok.funs.mem hb;exact absurd (aX (aE ho) (aS I.sz h)) (bp _)
theorem Inv.cne(I:Inv X pins σ H s):∀x c,X.env.cells.lookup x=some c->c≠X.env.locals:=λx c e z=>by
 obtain⟨v,o,ho,hd⟩:=I.cell x c e;obtain⟨m,⟨o',es,ep,ho',hd',_⟩,_⟩:=I.loc;rw[z,ho']at ho;cases ho;rw[hd']at hd;cases hd
theorem Inv.funs(I:Inv X pins σ H s):s.heap.FunFrames X.base X.outer:=by
 have all:∀(l:List Env),(∀b∈frs l,b∈X.fs)->X.s₀.heap.FunFrames X.base l->s.heap.FunFrames X.base l:=by
  intro l
  induction l with
  |nil=>intro _ _;trivial
  |cons env r ih=>
   intro hs hl;obtain⟨hk,⟨L,o,hf,hn,ho,hd⟩,hr⟩:=hl;have hL:L∈X.fs:=hs L (by unfold frs;rw[List.filterMap_cons,hf];exact aM);obtain⟨sl,e⟩:=I.base.slot L o ho (I.ok.frf L hL) hL λz=>I.ok.exfs L z hL
   exact⟨hk,⟨L,_,hf,hn,e,hd⟩,ih (λb hb=>hs b (by unfold frs;rw[List.filterMap_cons,hf];exact aL _ hb)) hr⟩
 exact all X.outer (λ_ hb=>hb) I.ok.funs
theorem Inv.stack(I:Inv X pins σ H s):s.heap.FunFrames X.base X.stack:=by
 rcases I.ok.stk with e|⟨e,hf⟩
 ·rw[e];exact I.funs
 ·rw[e];obtain⟨m,hn,_⟩:=I.loc;refine .cons (by rw[I.ok.kind];decide) hf hn ?_ I.funs;exact Heap.get?_none_of_le (aS I.ok.bsz I.ok.above)
theorem Inv.stkSub(I:Inv X pins σ H s):∀b∈frs X.stack,b∈X.env.locals::X.fs:=λb hb=>by
 rcases I.ok.stk with e|⟨e,hf⟩
 ·rw[e]at hb;exact aL _ hb
 ·rw[e]at hb;unfold frs at hb;rw[List.filterMap_cons,hf]at hb;exact hb
theorem Inv.stkFree(I:Inv X pins σ H s):∀b∈frs X.stack,H b=none:=λb hb=>by
 rcases aI.mp (I.stkSub b hb)with e|hb
 ·rw[e];exact I.free
 ·obtain⟨_,o,ho,_⟩:=I.ok.funs.mem hb;exact I.base.free b o ho (I.ok.frf b hb) λz=>I.ok.exfs b z hb
theorem Inv.step{g':Array GenState}{t':Nat}{d':Drawn}{ch:List Addr}(I:Inv X pins σ H s)
  (hch:∀b∈ch,(b∈X.ex\/X.s₀.heap.objs.size<=b)/\b≠X.env.locals/\(∀x c,X.env.cells.lookup x=some c->c≠b)/\∀p∈X.pn++pins,p.1≠b)
  (keep:∀b o,b≠X.env.locals->b∉X.fs->b∉ch->s.heap.get? b=some o->H b=none->h'.get? b=some o)
  (slot:∀b o,b≠X.env.locals->b∈X.fs->b∉ch->s.heap.get? b=some o->H b=none->∃sl,h'.get? b=some {o with slots:=sl}) (free:∀b o,b∉ch->s.heap.get? b=some o->H b=none->H' b=none)
  (there:∀b o,b∉ch->s.heap.get? b=some o->∃o',h'.get? b=some o')
  (tups:∀b xs,H b=some (.tup xs)->H' b=some (.tup xs)) (frzs:∀b o u,H b=some (.frz o u)->H' b=some (.frz o u)) (tbls:∀b ps,H b=some (.tbl ps)->∃more,H' b=some (.tbl (ps++more)))
  (ns:∀m,s.heap.Ns X.env.locals m->h'.Ns X.env.locals m) (hok:HOk X.prog X.w H' h') (hg:AllBare g') :
  Inv X pins σ H' {s with heap:=h',gens:=g',drawn:=d',toks:=t'}:=by
 have neL:∀b o,X.s₀.heap.get? b=some o->b≠X.env.locals:=λb o e=>aU (aX (aE e) I.ok.above)
 have neC:∀b o,X.s₀.heap.get? b=some o->b∉X.ex->b∉ch:=λb o e hx hb=>by
  rcases(hch b hb).1 with z|z
  ·exact hx z
  ·exact absurd (aX (aE e) z) (bp _)
 have cellK:∀x c,X.env.cells.lookup x=some c->∀v,s.heap.IsCell c v->h'.IsCell c v:=λx c e v ⟨o,ho,hd⟩=>by
  have nch:c∉ch:=λz=>(hch c z).2.2.1 x c e rfl
  by_cases hc:c∈X.fs
  ·obtain⟨sl,q⟩:=slot c o (I.cne x c e) hc nch ho (I.freeC x c e);exact⟨_,q,hd⟩
  ·exact⟨o,keep c o (I.cne x c e) hc nch ho (I.freeC x c e),hd⟩
 refine⟨I.ok,I.os,hg,⟨λb o e n hb hx=>?_,λb o e n hb hx=>?_,λb o e n hx=>?_,λb o e hx=>?_,λb xs e=>tups b xs (I.base.tups b xs e),λb o xs e=>frzs b o xs (I.base.frzs b o xs e),λb ps e=>?_⟩,?_,λx c e=>?_,?_,λx c e=>?_,λp hp=>?_,hok,I.len⟩
 ·exact keep b o (neL b o e) hb (neC b o e hx) (I.base.keep b o e n hb hx) (I.base.free b o e n hx)
 ·obtain⟨sl,e1⟩:=I.base.slot b o e n hb hx;obtain⟨sl',e2⟩:=slot b _ (neL b o e) hb (neC b o e hx) e1 (I.base.free b o e n hx);exact⟨sl',e2⟩
 ·obtain⟨o',e1⟩:=I.base.there b o e hx;exact free b o' (neC b o e hx) e1 (I.base.free b o e n hx)
 ·obtain⟨o',e1⟩:=I.base.there b o e hx;exact there b o' (neC b o e hx) e1
 ·obtain⟨m1,e1⟩:=I.base.tbls b ps e;obtain⟨m2,e2⟩:=tbls b _ e1;exact⟨m1++m2,by rw[e2,Array.append_assoc]⟩
 ·obtain⟨m,hn,hl⟩:=I.loc;refine⟨m,ns m hn,λi x v e1 e2 e3=>?_⟩;obtain⟨u,r,l⟩:=hl i x v e1 e2 e3;refine⟨u,r,?_⟩;rcases l with l|⟨k,c,e,z⟩
  ·exact .inl l
  ·exact .inr ⟨k,c,e,cellK x c e _ z⟩
 ·obtain⟨v,z⟩:=I.cell x c e;exact⟨v,cellK x c e v z⟩
 ·obtain⟨m,⟨o,_,_,ho,_⟩,_⟩:=I.loc;exact free _ o (λz=>(hch _ z).2.1 rfl) ho I.free
 ·obtain⟨v,o,ho,hd⟩:=I.cell x c e;exact free c o (λz=>(hch c z).2.2.1 x c e rfl) ho (I.freeC x c e)
 ·obtain⟨e,n,ne,nf,d⟩:=I.pin p hp;have nch:p.1∉ch:=λz=>(hch p.1 z).2.2.2 p hp rfl
  exact⟨keep p.1 p.2 ne nf nch e n,free p.1 p.2 nch e n,ne,nf,d⟩
theorem Inv.un{t':Nat}(I:Inv X pins σ H s)(u:Un X.fs [] H H' s.heap h')(hok:HOk X.prog X.w H' h'):Inv X pins σ H' {s with heap:=h',toks:=t'}:=by
 obtain⟨m,⟨o,es,ep,ho,r⟩,_⟩:=id I.loc;obtain⟨sl,hL⟩:=u.any ho I.free (by simp);exact I.step (g':=s.gens) (d':=s.drawn) (ch:=[]) (λ_ z=>nomatch z) (λb o _ hb _ e n=>u.keep b o e n hb (by simp)) (λb o _ hb _ e n=>u.slot b o e n hb (by simp)) (λb o _ e n=>u.free b o e n (by simp)) (λb o _ e=>u.there b o e (by simp)) u.tups u.frzs u.tbls (λm' hm=>by
  obtain⟨o',es',ep',ho',r'⟩:=hm;rw[ho]at ho';cases ho';exact⟨_,es',ep',hL,r'⟩) hok I.bare
theorem Inv.call{g':Array GenState}{t':Nat}{d':Drawn}{ch:List Addr}(I:Inv X pins σ H s)(u:Un (frs X.stack) ch H H' s.heap h')(hok:HOk X.prog X.w H' h')(hg:AllBare g')
  (hch:∀b∈ch,(b∈X.ex\/X.s₀.heap.objs.size<=b)/\b≠X.env.locals/\(∀x c,X.env.cells.lookup x=some c->c≠b)/\∀p∈X.pn++pins,p.1≠b) :
  Inv X pins σ H' {s with heap:=h',gens:=g',drawn:=d',toks:=t'}:=by
 obtain⟨m,⟨o,es,ep,ho,r⟩,_⟩:=id I.loc;obtain⟨sl,hL⟩:=u.any ho I.free λz=>(hch _ z).2.1 rfl
 exact I.step (ch:=ch) hch (λb o hL hb hc e n=>u.keep b o e n (λz=>(aI.mp (I.stkSub b z)).elim hL hb) hc) (λb o _ _ hc e n=>u.any e n hc) (λb o hc e n=>u.free b o e n hc) (λb o hc e=>u.there b o e hc) u.tups u.frzs u.tbls (λm' hm=>by
  obtain⟨o',es',ep',ho',r'⟩:=hm;rw[ho]at ho';cases ho';exact⟨_,es',ep',hL,r'⟩) hok hg
theorem Inv.turned{t':Nat}{it:Addr}(I:Inv X pins σ H s)(k:∀b o,b≠it->s.heap.get? b=some o->h'.get? b=some o)(hn:H it=none)(hL:it≠X.env.locals)
  (h1:it∈X.ex\/X.s₀.heap.objs.size<=it) (h2:∀x c,X.env.cells.lookup x=some c->c≠it) (h3:∀p∈X.pn++pins,p.1≠it):Inv X pins σ H {s with heap:=h',toks:=t'}:=by
 have nit:∀b u,H b=some u->b≠it:=λb u e z=>by rw[z,hn]at e;cases e
 refine I.step (g':=s.gens) (d':=s.drawn) (ch:=[it]) (λb hb=>?_) (λb o _ _ hc e _=>k b o (λz=>hc (by simp[z])) e) (λb o _ _ hc e _=>⟨o.slots,k b o (λz=>hc (by simp[z])) e⟩) (λ_ _ _ _ n=>n)
  (λb o hc e=>⟨o,k b o (λz=>hc (by simp[z])) e⟩) (λ_ _ e=>e) (λ_ _ _ e=>e) (λb ps e=>⟨#[],by rw[e];simp⟩) (λm hm=>?_) (λb u e=>?_) I.bare
 ·have e:b=it:=by simpa using hb
  subst e;exact⟨h1,hL,h2,h3⟩
 ·obtain⟨o,es,ep,ho,r⟩:=hm;exact⟨o,es,ep,k _ o (Ne.symm hL) ho,r⟩
 ·refine(I.hok b u e).stay (λc v hc q=>k c v ?_ q) (λ_ q=>q) λ_ _ q=>q
  rcases hc with z|z
  ·rw[z];exact nit b u e
  ·exact nit c _ z
theorem Inv.tok(I:Inv X pins σ H s)(t:Nat):Inv X pins σ H {s with toks:=t}:=I.un (h':=s.heap) (t':=t) Un.refl I.hok
theorem Inv.kept{t':Nat}(I:Inv X pins σ H s)(k:∀b u,s.heap.get? b=some u->h'.get? b=some u):Inv X pins σ H {s with heap:=h',toks:=t'}:=I.un (Un.kept k) (I.hok.kept k)
theorem Inv.laid{a:Addr}{o:HO}{t':Nat}(I:Inv X pins σ H s)(k:∀b u,s.heap.get? b=some u->h'.get? b=some u)(hp:s.heap.objs.size<=a)(new:zy X.prog X.w (upd H a o) h' a o) :
  Inv X pins σ (upd H a o) {s with heap:=h',toks:=t'}:=I.un (Un.laid k hp (I.hok.fresh hp)) (I.hok.laid k hp new)
theorem Inv.write{x e:Addr}{o:HO}{t':Nat}(I:Inv X pins σ H s)(mu:Mut (H x))(he:e=x\/H e=some (.own x))(k:∀b u,b≠e->s.heap.get? b=some u->h'.get? b=some u)(heo:∃u,h'.get? e=some u)
  (new:zy X.prog X.w (upd H x o) h' x o):Inv X pins σ (upd H x o) {s with heap:=h',toks:=t'}:=I.un (Un.write mu he k heo) (I.hok.write mu he k heo new)
theorem Inv.pins_of{pins':List (Addr×Obj)}(I:Inv X pins σ H s)(h:∀p∈pins',s.heap.get? p.1=some p.2/\H p.1=none/\p.1≠X.env.locals/\p.1∉X.fs/\∀v,p.2.data≠.cell v):Inv X pins' σ H s:=
 ⟨I.ok,I.os,I.bare,I.base,I.loc,I.cell,I.free,I.freeC,λp hp=>(List.mem_append.mp hp).elim (λz=>I.pin p (List.mem_append_left _ z)) (h p),I.hok,I.len⟩
theorem jc{N:List Str}(hN:N.Nodup){i j:Nat}{x:Str}(a:N[i]? = some x)(b:N[j]? = some x):i=j:=by
 obtain⟨h1,e1⟩:=List.getElem?_eq_some_iff.mp a;obtain⟨h2,e2⟩:=List.getElem?_eq_some_iff.mp b;exact(List.getElem_inj hN).mp (e1.trans e2.symm)
theorem jt{M:Model}{A:av}{E:ae->af->Prop}{i:Nat}{x:Str}{v:V}{u:ae}{Q:Unit->af->Prop}(I:Inv X pins σ H s)(hN:X.N.Nodup)(hi:X.N[i]? = some x)(hx:Loc X.env.scope x)(r:RelV v u)
  (h:∀s',Inv X pins (σ.set i (some v)) H s'->(∃a,Heap.SameBut a s.heap s'.heap/\(a=X.env.locals\/X.env.cells.lookup x=some a))->Q () s') (hf:X.fn x=true\/X.env.scope.names.lookup x=some .local:=by first|exact .inl rfl|exact .inr rfl|assumption):ak M A (storeName X.env x u) Q E s:=by
 obtain⟨m,hn,hl⟩:=id I.loc;have hcls:(X.env.scope.kind==.class||(X.env.scope.kind==.module&&X.env.locals != X.env.globals))=false:=by rw[I.ok.kind];rfl
 have hiσ:i<σ.length:=by rw[I.len];exact(List.getElem?_eq_some_iff.mp hi).1
 have cne:=I.cne;have tracked:∀{a:Addr}{h':Heap},(∃o,s.heap.get? a=some o/\H a=none)->Heap.SameBut a s.heap h'->HOk X.prog X.w H h':=λ{a h'} ha hs b ob e=>by
  obtain⟨_,_,hfree⟩:=ha;refine(I.hok b ob e).stay (λc w' hc q=>(hs.2 c ?_).trans q) (λ_ q=>q) λ_ _ q=>q
  rintro rfl;rcases hc with rfl|hc
  ·rw[hfree]at e;cases e
  ·rw[hfree]at hc;cases hc
 rcases hx with hk|hk
 ·refine wpAny_storeName_local hk hn (λh' hn' hs=>?_) hcls;obtain⟨oL,_,_,hoL,_⟩:=id hn;refine h _ ⟨I.ok,I.os,I.bare,⟨λb o e n hb hx=>?_,λb o e n hb hx=>?_,I.base.free,λb o e hx=>?_,I.base.tups,I.base.frzs,I.base.tbls⟩,⟨_,hn',λj y v' e1 e2 e3=>?_⟩,λy c e=>?_,I.free,I.freeC,λp hp=>?_,tracked ⟨oL,hoL,I.free⟩ hs,by simpa using I.len⟩ ⟨_,hs,.inl rfl⟩
  ·exact(hs.2 b (aU (aX (aE e) I.ok.above))).trans (I.base.keep b o e n hb hx)
  ·obtain⟨sl,e1⟩:=I.base.slot b o e n hb hx;exact⟨sl,(hs.2 b (aU (aX (aE e) I.ok.above))).trans e1⟩
  ·obtain⟨o',e1⟩:=I.base.there b o e hx;exact⟨o',(hs.2 b (aU (aX (aE e) I.ok.above))).trans e1⟩
  ·by_cases hj:j=i
   ·subst hj;rw[hi]at e1;cases e1;rw[List.getElem?_set_self hiσ]at e2;cases e2;exact⟨u,r,.inl ⟨hk,by simp⟩⟩
   ·rw[List.getElem?_set_ne (Ne.symm hj)]at e2;obtain⟨u',r',q⟩:=hl j y v' e1 e2 e3;refine⟨u',r',?_⟩;rcases q with ⟨k,e⟩|⟨k,c,e,z⟩
    ·refine .inl ⟨k,?_⟩;have:y≠x:=λe=>hj (jc hN e1 (e▸hi))
     simp[this,e]
    ·exact .inr ⟨k,c,e,z.sameBut hs (cne y c e)⟩
  ·obtain⟨w',z⟩:=I.cell y c e;exact⟨w',z.sameBut hs (cne y c e)⟩
  ·obtain⟨e,n,ne,nf,d⟩:=I.pin p hp;exact⟨(hs.2 p.1 ne).trans e,n,ne,nf,d⟩
 ·have hfn:X.fn x=true:=by
   rcases hf with z|z
   ·exact z
   ·rw[z]at hk;cases hk
  obtain⟨c,hc⟩:=I.ok.has x (.inl hk);obtain⟨w',z⟩:=I.cell x c hc;refine wpAny_storeName_cell I.ok.kind hk hc z (λh' hc' hs=>?_);obtain⟨oc,hoc,hocd⟩:=id z;refine h {s with heap:=h'} ⟨I.ok,I.os,I.bare,⟨λb o e n hb hx=>?_,λb o e n hb hx=>?_,I.base.free,λb o e hx=>?_,I.base.tups,I.base.frzs,I.base.tbls⟩,⟨m,hn.sameBut hs (Ne.symm (cne x c hc)),λj y v' e1 e2 e3=>?_⟩,λy c' e=>?_,I.free,I.freeC,λp hp=>?_,tracked ⟨oc,hoc,I.freeC x c hc⟩ hs,by simpa using I.len⟩ ⟨c,hs,.inr hc⟩
  ·exact(hs.2 b (aU (aX (aE e) (I.ok.cab x c hfn hc)))).trans (I.base.keep b o e n hb hx)
  ·obtain⟨sl,e1⟩:=I.base.slot b o e n hb hx;exact⟨sl,(hs.2 b (aU (aX (aE e) (I.ok.cab x c hfn hc)))).trans e1⟩
  ·obtain⟨o',e1⟩:=I.base.there b o e hx;exact⟨o',(hs.2 b (aU (aX (aE e) (I.ok.cab x c hfn hc)))).trans e1⟩
  ·by_cases hj:j=i
   ·subst hj;rw[hi]at e1;cases e1;rw[List.getElem?_set_self hiσ]at e2;cases e2;exact⟨u,r,.inr ⟨.inl hk,c,hc,hc'⟩⟩
   ·rw[List.getElem?_set_ne (Ne.symm hj)]at e2;obtain⟨u',r',q⟩:=hl j y v' e1 e2 e3;refine⟨u',r',?_⟩;rcases q with q|⟨k,c',e,z'⟩
    ·exact .inl q
    ·refine .inr ⟨k,c',e,z'.sameBut hs ?_⟩;rintro rfl;exact hj (jc hN e1 (I.ok.inj _ _ _ e hc▸hi))
  ·by_cases hcc:c'=c
   ·subst hcc;exact⟨_,hc'⟩
   ·obtain⟨w2,z2⟩:=I.cell y c' e;exact⟨w2,z2.sameBut hs hcc⟩
  ·obtain⟨e,n,ne,nf,d⟩:=I.pin p hp;refine⟨(hs.2 p.1 ?_).trans e,n,ne,nf,d⟩;intro q;rw[q,hoc]at e;have q':oc=p.2:=br e;exact d w' (by rw[<-q'];exact hocd)
theorem iK{M:Model}{A:av}{E:ae->af->Prop}{i:Nat}{x:Str}{v:V}{u:ae}{Q:Unit->af->Prop}(I:Inv X pins σ H s)(hN:X.N.Nodup)(hi:X.N[i]? = some x)(hx:Loc X.env.scope x)(r:RelV v u)
  (h:∀s',Inv X pins (σ.set i (some v)) H s'->Q () s') (hf:X.fn x=true\/X.env.scope.names.lookup x=some .local:=by first|exact .inl rfl|exact .inr rfl|assumption):ak M A (storeName X.env x u) Q E s:=
 jt I hN hi hx r (λs' I' _=>h s' I') hf
theorem Inv.call'{s':af}{ch:List Addr}(I:Inv X pins σ H s)(ho:s'.os=s.os)(u:Un (frs X.stack) ch H H' s.heap s'.heap)(hok:HOk X.prog X.w H' s'.heap)(hg:AllBare s'.gens)
  (hch:∀b∈ch,(b∈X.ex\/X.s₀.heap.objs.size<=b)/\b≠X.env.locals/\(∀x c,X.env.cells.lookup x=some c->c≠b)/\∀p∈X.pn++pins,p.1≠b):Inv X pins σ H' s':=by
 obtain⟨h',g',d',t',o'⟩:=s';have e:o'=s.os:=ho;subst e;exact I.call (g':=g') (t':=t') (d':=d') u hok hg hch
end
abbrev XK:=ae->Option Addr->Hp->Prop
abbrev St:=List (Option V)
abbrev VK:=V->Hp->Prop
abbrev TE:=St->Hp->VK->Prop
abbrev TT:=St->Hp->(Bool->Hp->Prop)->Prop
abbrev TA:=St->Hp->(List V->Hp->Prop)->Prop
structure Ends where
 nx:St->Hp->Prop
 rt:VK
 bk:St->Hp->Prop:=λ_ _=>False
 ct:St->Hp->Prop:=λ_ _=>False
abbrev TS:=Ends->St->Hp->Prop
noncomputable def EP(X:Cx)(pins:List (Addr×Obj))(σ:St)(Q:VK)(u:ae)(s':af):Prop:=∃v H',Inv X pins σ H' s'/\RelV v u/\Q v H'
noncomputable def TP(X:Cx)(pins:List (Addr×Obj))(σ:St)(Q:Bool->Hp->Prop)(b:Bool)(s':af):Prop:=∃H',Inv X pins σ H' s'/\Q b H'
noncomputable def AP(X:Cx)(pins:List (Addr×Obj))(σ:St)(Q:List V->Hp->Prop)(us:List ae)(s':af):Prop:=∃vs H',Inv X pins σ H' s'/\Vals vs us/\Q vs H'
noncomputable def SP(X:Cx)(pins:List (Addr×Obj))(D:Ends)(f:Flow)(s':af):Prop:=
 match f with
 | .next=>∃σ' H',Inv X pins σ' H' s'/\D.nx σ' H'
 | .brk=>∃σ' H',Inv X pins σ' H' s'/\D.bk σ' H'
 | .cont=>∃σ' H',Inv X pins σ' H' s'/\D.ct σ' H'
 | .ret u=>∃v σ' H',Inv X pins σ' H' s'/\RelV v u/\D.rt v H'
noncomputable def PE(X:Cx)(e:Expr)(t:TE):Prop:=
 ∀(pins:List (Addr×Obj)) (s:af) (σ:St) (H:Hp) (Q:VK),Inv X pins σ H s->t σ H Q->ak (ao X.prog X.w) X.A (eval e X.env) (EP X pins σ Q) X.xe s
noncomputable def PT(X:Cx)(e:Expr)(t:TT):Prop:=
 ∀(pins:List (Addr×Obj)) (s:af) (σ:St) (H:Hp) (Q:Bool->Hp->Prop),Inv X pins σ H s->t σ H Q->ak (ao X.prog X.w) X.A (isTrue e X.env (eval e X.env)) (TP X pins σ Q) X.xe s
noncomputable def PW(X:Cx)(e:Expr)(t:TT):Prop:=
 ∀(whole:Sem ae) (pins:List (Addr×Obj)) (s:af) (σ:St) (H:Hp) (Q:Bool->Hp->Prop),Inv X pins σ H s->t σ H Q->ak (ao X.prog X.w) X.A (isTrue e X.env whole) (TP X pins σ Q) X.xe s
theorem PW.pt{X:Cx}{e:Expr}{t:TT}(h:PW X e t):PT X e t:=h _
noncomputable def PA(X:Cx)(es:List Expr)(t:TA):Prop:=
 ∀(pos:Pos) (pins:List (Addr×Obj)) (s:af) (σ:St) (H:Hp) (Q:List V->Hp->Prop),Inv X pins σ H s->t σ H Q->ak (ao X.prog X.w) X.A (spliced (backTo pos (aK es X.env))) (AP X pins σ Q) X.xe s
noncomputable def PS(X:Cx)(st:Stmt)(t:TS):Prop:=
 ∀(pins:List (Addr×Obj)) (s:af) (σ:St) (H:Hp) (D:Ends),Inv X pins σ H s->t D σ H->ak (ao X.prog X.w) X.A (exec st X.env) (SP X pins D) X.xe s
noncomputable def PSs(X:Cx)(st:List Stmt)(t:TS):Prop:=
 ∀(pins:List (Addr×Obj)) (s:af) (σ:St) (H:Hp) (D:Ends),Inv X pins σ H s->t D σ H->ak (ao X.prog X.w) X.A (execs st X.env) (SP X pins D) X.xe s
theorem thn{α:Type}{t:Sem α}{Q Q':α->af->Prop}{M:Model}{A:av}{E:ae->af->Prop}{s:af}(h:ak M A t Q E s)(hQ:∀a s,Q a s->Q' a s):ak M A t Q' E s:=bq h hQ λ_ _ x=>x
section
variable{X:Cx}
theorem bin{a b:Expr}{ta tb:TE}(ha:PE X a ta)(hb:PE X b tb){pins:List (Addr×Obj)}{s:af}{σ:St}{H:Hp}{R:V->V->Hp->Prop}(I:Inv X pins σ H s)(h:ta σ H λx H1=>tb σ H1 λy H2=>R x y H2)
  {α:Type}{Q:α->af->Prop}{f:ae->ae->Sem α}
  (hf:∀v u s2 x y H2,Inv X pins σ H2 s2->RelV x v->RelV y u->R x y H2->ak (ao X.prog X.w) X.A (f v u) Q X.xe s2) :
  ak (ao X.prog X.w) X.A (eval a X.env) (λv s₁=>ak (ao X.prog X.w) X.A (eval b X.env) (λu s₂=>ak (ao X.prog X.w) X.A (f v u) Q X.xe s₂) X.xe s₁) X.xe s:=by
 refine thn (ha pins s σ H _ I h) λv s1 ⟨x,H1,I1,r1,q1⟩=>?_
 refine thn (hb pins s1 σ H1 _ I1 q1) λu s2 ⟨y,H2,I2,r2,q2⟩=>?_
 exact hf v u s2 x y H2 I2 r1 r2 q2
noncomputable def eU(i:Nat):TE:=λσ H Q=>∃v,σ[i]? = some (some v)/\Q v H
noncomputable def tC(v:V):TE:=λ_ H Q=>Q v H
theorem fH{i:Nat}{x:Str}{pos:Pos}(hN:X.N[i]? = some x)(hv:ez X.env.scope x)(hd:(x==("__debug__" : Str))=false:=by decide)(hcd:(x==("__classdict__" : Str))=false:=by decide):PE X (.Name x pos) (eU i):=by
 intro pins s σ H Q I h;obtain⟨v,e,h⟩:=h;obtain⟨m,hn,hl⟩:=I.loc;obtain⟨u,r,l⟩:=hl i x v hN e hv;have fin:EP X pins σ Q u s:=⟨v,H,I,r,h⟩
 rcases l with ⟨hk,hm⟩|⟨hk,c,hc,hcell⟩
 ·exact wpAny_Name (wpAny_loadName_local I.ok.kind hk hn hm fin) hd
 ·rcases hk with hk|hk
  ·exact wpAny_Name (wpAny_loadName_cell I.ok.kind hk hc hcell fin) hd
  ·exact wpAny_Name (wpAny_loadName_free I.ok.kind hk hc hcell fin hcd) hd
theorem uR{i j pos}:PE X (.Constant (.int i) j pos) (tC (.int i)):=λ_ _ _ H _ I h=>wpAny_Constant_int ⟨.int i,H,I.tok _,⟨_,rfl⟩,h⟩
theorem jN{b j pos}:PE X (.Constant (.bool b) j pos) (tC (.bl b)):=λ_ _ _ H _ I h=>Constant_bool ⟨.bl b,H,I,rfl,h⟩
theorem wB{j pos}:PE X (.Constant .none j pos) (tC .non):=λ_ _ _ H _ I h=>Constant_none ⟨.non,H,I,rfl,h⟩
theorem iH{x j pos}:PE X (.Constant (.str x) j pos) (tC (.str x)):=λ_ _ _ H _ I h=>Calls.Constant_str ⟨.str x,H,I.tok _,⟨_,rfl⟩,h⟩
noncomputable def Gl(X:Cx)(x:Str):Prop:=X.env.kindOf x=some .globalImplicit
theorem eB{E:ae->af->Prop}{pins:List (Addr×Obj)}{s:af}{σ:St}{H:Hp}{x:Str}{u:ae}{pos:Pos}{Q:ae->af->Prop}(I:Inv X pins σ H s)(hg:Gl X x)(hm:X.mg x=some u)(h:Q u s)
  (hd:(x==("__debug__" : Str))=false:=by decide):ak (ao X.prog X.w) X.A (eval (.Name x pos) X.env) Q E s:=
 Calls.Name_function_global I.ok.kind hg (Calls.loadGlobal_global (by rw[I.ok.glob];exact I.mod.glob.keeps I.bk) hm h) hd
theorem et{E:ae->af->Prop}{pins:List (Addr×Obj)}{s:af}{σ:St}{H:Hp}{x:Str}{u:ae}{pos:Pos}{Q:ae->af->Prop}(I:Inv X pins σ H s)(hg:Gl X x)(hm:X.mg x=none)(hv:bg x=some u)(h:Q u s)
  (hn:x≠"__name__":=by decide) (hd:(x==("__debug__" : Str))=false:=by decide):ak (ao X.prog X.w) X.A (eval (.Name x pos) X.env) Q E s:=by
 obtain⟨mb,h1,h2⟩:=I.mod.blt;exact Calls.Name_function_global I.ok.kind hg (Calls.loadGlobal_builtin (by rw[I.ok.glob];exact I.mod.glob.keeps I.bk) hm (by rw[I.ok.blt];exact h1.keeps I.bk) ((h2 x hn).trans hv) h) hd
theorem gX{x:Str}{v:V}{u:ae}{pos:Pos}(hg:Gl X x)(hm:X.mg x=some u)(r:RelV v u)(hd:(x==("__debug__" : Str))=false:=by decide):PE X (.Name x pos) (tC v):=
 λ_ _ _ H _ I h=>eB I hg hm ⟨v,H,I,r,h⟩ hd
theorem mU{x:Str}{v:V}{u:ae}{pos:Pos}(hg:Gl X x)(hm:X.mg x=none)(hv:bg x=some u)(r:RelV v u)(hn:x≠"__name__":=by decide)(hd:(x==("__debug__" : Str))=false:=by decide):PE X (.Name x pos) (tC v):=
 λ_ _ _ H _ I h=>et I hg hm hv ⟨v,H,I,r,h⟩ hn hd
variable{a b:Expr}{ta tb:TE}{pos:Pos}
variable{tA tB':TT}{rest:List Expr}
noncomputable def uZ(t u:TT):TT:=λσ H Q=>t σ H λc H1=>if c=true then u σ H1 Q else Q false H1
noncomputable def tOr(t u:TT):TT:=λσ H Q=>t σ H λc H1=>if c=true then Q true H1 else u σ H1 Q
noncomputable def rP(t:TT):TT:=λσ H Q=>t σ H λc H1=>Q (!c) H1
theorem rZ(ha:PT X a tA):PW X (.BoolOp .And [a] pos) tA:=by
 intro wh pins s σ H Q I h;refine isTrue_and (thn (ha pins s σ H Q I h) λc s1 e=>?_);cases c with
 |true=>exact isTrue_and_nil e
 |false=>exact e
theorem rT(ha:PT X a tA):PW X (.BoolOp .Or [a] pos) tA:=by
 intro wh pins s σ H Q I h;refine isTrue_or (thn (ha pins s σ H Q I h) λc s1 e=>?_);cases c with
 |false=>exact isTrue_or_nil e
 |true=>exact e
theorem tL(ha:PT X a tA)(hb:PW X (.BoolOp .And (b::rest) pos) tB'):PW X (.BoolOp .And (a::b::rest) pos) (uZ tA tB'):=by
 intro wh pins s σ H Q I h;refine isTrue_and (thn (ha pins s σ H _ I h) λc s1 ⟨H1,I1,q1⟩=>?_);cases c with
 |true=>exact hb wh pins s1 σ H1 Q I1 q1
 |false=>exact⟨H1,I1,q1⟩
theorem r_(ha:PT X a tA)(hb:PW X (.BoolOp .Or (b::rest) pos) tB'):PW X (.BoolOp .Or (a::b::rest) pos) (tOr tA tB'):=by
 intro wh pins s σ H Q I h;refine isTrue_or (thn (ha pins s σ H _ I h) λc s1 ⟨H1,I1,q1⟩=>?_);cases c with
 |true=>exact⟨H1,I1,q1⟩
 |false=>exact hb wh pins s1 σ H1 Q I1 q1
theorem xo(ha:PT X a tA):PT X (.UnaryOp .Not a pos) (rP tA):=by
 intro pins s σ H Q I h;exact isTrue_not (ha pins s σ H (λc H1=>Q (!c) H1) I h)
noncomputable def xq(ta tb:TE):TE:=λσ H Q=>ta σ H λx H1=>∃c,x=.bl c/\if c=true then tb σ H1 Q else Q (.bl false) H1
noncomputable def vR(ta tb:TE):TE:=λσ H Q=>ta σ H λx H1=>∃c,x=.bl c/\if c=true then Q (.bl true) H1 else tb σ H1 Q
noncomputable def m_(ta:TE):TE:=λσ H Q=>ta σ H λx H1=>∃c,x=.bl c/\Q (.bl (!c)) H1
theorem t_{op}{t:TE}(h:PE X a t):PE X (.BoolOp op [a] pos) t:=λpins s σ H Q I hw=>BoolOp_one (h pins s σ H Q I hw)
theorem rY(ha:PE X a ta)(hb:PE X (.BoolOp .And (b::rest) pos) tb):PE X (.BoolOp .And (a::b::rest) pos) (xq ta tb):=by
 intro pins s σ H Q I h;refine BoolOp_and (thn (ha pins s σ H _ I h) λv s1 ⟨x,H1,I1,r1,q1⟩=>?_);obtain⟨c,rfl,q1⟩:=q1;cases r1;refine ba ?_;cases c with
 |true=>exact hb pins s1 σ H1 Q I1 q1
 |false=>exact⟨.bl false,H1,I1,rfl,q1⟩
theorem mv(ha:PE X a ta)(hb:PE X (.BoolOp .Or (b::rest) pos) tb):PE X (.BoolOp .Or (a::b::rest) pos) (vR ta tb):=by
 intro pins s σ H Q I h;refine BoolOp_or (thn (ha pins s σ H _ I h) λv s1 ⟨x,H1,I1,r1,q1⟩=>?_);obtain⟨c,rfl,q1⟩:=q1;cases r1;refine ba ?_;cases c with
 |false=>exact hb pins s1 σ H1 Q I1 q1
 |true=>exact⟨.bl true,H1,I1,rfl,q1⟩
theorem vj(ha:PE X a ta):PE X (.UnaryOp .Not a pos) (m_ ta):=by
 intro pins s σ H Q I h;refine UnaryOp_ (thn (ha pins s σ H _ I h) λv s1 ⟨x,H1,I1,r1,q1⟩=>?_);obtain⟨c,rfl,q1⟩:=q1;cases r1;exact not_of (ba ⟨.bl (!c),H1,I1,rfl,q1⟩)
noncomputable def tIf(t:TT)(ta tb:TE):TE:=λσ H Q=>t σ H λc H1=>if c=true then ta σ H1 Q else tb σ H1 Q
theorem wF{c:Expr}(hc:PT X c tA)(ha:PE X a ta)(hb:PE X b tb):PE X (.IfExp c a b pos) (tIf tA ta tb):=by
 intro pins s σ H Q I h;refine wpAny_IfExp (thn (hc pins s σ H _ I h) λd s1 ⟨H1,I1,q1⟩=>?_);cases d with
 |true=>exact ha pins s1 σ H1 Q I1 q1
 |false=>exact hb pins s1 σ H1 Q I1 q1
end
noncomputable def SqL(K:aq)(H:Hp)(a:Addr)(xs:List V):Prop:=
 Rd H a (.lst xs) \/
  ∃(o:Obj) (its:Array ae) (n:Nat),K.lookup a=some o/\o.cls=.type "list"/\o.dict=none/\o.data=.seq its n/\its.size<=aF/\Vals xs its.toList
noncomputable def SqT(K:aq)(H:Hp)(a:Addr)(xs:List V):Prop:=
 Rd H a (.tup xs) \/
  ∃(o:Obj) (its:Array ae) (n:Nat),K.lookup a=some o/\o.cls=.type "tuple"/\o.data=.seq its n/\its.size<=aF/\Vals xs its.toList
noncomputable def wd:ae->Option V
 | .none=>some .non
 | .bool b=>some (.bl b)
 | .int i _=>some (.int i)
 | .str x _=>some (.str x)
 | .bytes b _=>some (.byt b)
 | .float b _=>some (.flt b)
 | .ref a=>some (.ref a)
 | .type n=>some (.ty n)
 |_=>none
theorem RelV.abs{x:V}{u:ae}(r:RelV x u):wd u=some x:=by
 cases x with
 |non=>cases r;rfl
 |bl _=>cases r;rfl
 |int _=>obtain⟨t,rfl⟩:=r;rfl
 |str _=>obtain⟨t,rfl⟩:=r;rfl
 |byt _=>obtain⟨t,rfl⟩:=r;rfl
 |flt _=>obtain⟨t,rfl⟩:=r;rfl
 |ref _=>cases r;rfl
 |ty _=>cases r;rfl
theorem RelV.inj{x y:V}{u:ae}(r:RelV x u)(q:RelV y u):x=y:=br (r.abs.symm.trans q.abs)
theorem Vals.inj{xs ys:List V}{us:List ae}(h:Vals xs us)(h':Vals ys us):xs=ys:=by
 induction h generalizing ys with
 |nil=>cases h';rfl
 |cons r t ih=>cases h' with
  |cons r' t'=>rw[r.inj r',ih t']
section
variable{X:Cx}{pins:List (Addr×Obj)}{σ:St}{H:Hp}{s:af}{a:Addr}{xs ys:List V}
theorem SqL.of{K:aq}(h:H a=some (.lst xs)):SqL K H a xs:=.inl (.inl h)
theorem SqT.of{K:aq}(h:H a=some (.tup xs)):SqT K H a xs:=.inl (.inl h)
theorem Inv.list(I:Inv X pins σ H s)(h:SqL X.K H a xs):∃its:List ae,Vals xs its/\PlainL s.heap a its.toArray/\xs.length<=sizeLine:=by
 rcases h with h|⟨o,its,n,hk,hc,hd,hs,hz,r⟩
 ·obtain⟨z,its,n,r,e⟩:=h.ok I.hok;exact⟨its,r,⟨_,n,e,rfl,rfl,rfl⟩,z⟩
 ·refine⟨its.toList,r,⟨o,n,I.kIn a o hk,hc,hd,by simpa using hs⟩,?_⟩;have e:=r.length;simp only[Array.length_toList]at e;lia
theorem Inv.tuple(I:Inv X pins σ H s)(h:SqT X.K H a xs):∃its:List ae,Vals xs its/\IsTup s.heap a its.toArray/\xs.length<=sizeLine:=by
 rcases h with h|⟨o,its,n,hk,hc,hs,hz,r⟩
 ·obtain⟨z,its,r,p⟩:=h.ok I.hok;exact⟨its,r,p,z⟩
 ·refine⟨its.toList,r,⟨o,I.kIn a o hk,hc,n,by simpa using hs⟩,?_⟩;have e:=r.length;simp only[Array.length_toList]at e;lia
theorem Inv.list_inj(I:Inv X pins σ H s)(h:SqL X.K H a xs)(h':SqL X.K H a ys):xs=ys:=by
 obtain⟨its,r,⟨o,n,e,_,_,d⟩,_⟩:=I.list h;obtain⟨its',r',⟨o',n',e',_,_,d'⟩,_⟩:=I.list h';rw[e]at e';cases e';rw[d]at d';injection d' with d1 _
 have:its=its':=by simpa using congrArg Array.toList d1
 subst this;exact r.inj r'
theorem Inv.tuple_inj(I:Inv X pins σ H s)(h:SqT X.K H a xs)(h':SqT X.K H a ys):xs=ys:=by
 obtain⟨its,r,⟨o,e,_,n,d⟩,_⟩:=I.tuple h;obtain⟨its',r',⟨o',e',_,n',d'⟩,_⟩:=I.tuple h';rw[e]at e';cases e';rw[d]at d';injection d' with d1 _
 have:its=its':=by simpa using congrArg Array.toList d1
 subst this;exact r.inj r'
end
abbrev Cx.wish(X:Cx)(E:ae->af->Prop):Cx:={X with xe:=E}
abbrev Cx.nox(X:Cx):Cx:=X.wish λ_ _=>False
theorem Cx.Ok.wish{X:Cx}(ok:X.Ok)(E:ae->af->Prop):(X.wish E).Ok:=
 ⟨ok.mod,ok.kind,ok.glob,ok.blt,ok.above,ok.inj,ok.has,ok.cab,ok.hd,ok.frames,ok.stk,ok.exf,ok.bs,ok.bsz,ok.noex,ok.exfs,ok.funs,ok.frf⟩
theorem Cx.Ok.unwish{X:Cx}{E:ae->af->Prop}(ok:(X.wish E).Ok):X.Ok:=
 ⟨ok.mod,ok.kind,ok.glob,ok.blt,ok.above,ok.inj,ok.has,ok.cab,ok.hd,ok.frames,ok.stk,ok.exf,ok.bs,ok.bsz,ok.noex,ok.exfs,ok.funs,ok.frf⟩
section
variable{X:Cx}{pins:List (Addr×Obj)}{σ:St}{H:Hp}{s:af}{E:ae->af->Prop}
theorem Inv.wish(I:Inv X pins σ H s)(E:ae->af->Prop):Inv (X.wish E) pins σ H s:=⟨I.ok.wish E,I.os,I.bare,I.base,I.loc,I.cell,I.free,I.freeC,I.pin,I.hok,I.len⟩
theorem Inv.unwish(I:Inv (X.wish E) pins σ H s):Inv X pins σ H s:=⟨I.ok.unwish,I.os,I.bare,I.base,I.loc,I.cell,I.free,I.freeC,I.pin,I.hok,I.len⟩
theorem SP.unwish{D:Ends}{f:Flow}{s':af}(h:SP (X.wish E) pins D f s'):SP X pins D f s':=by
 cases f with
 |next=>obtain⟨σ',H',I,q⟩:=h;exact⟨σ',H',I.unwish,q⟩
 |brk=>obtain⟨σ',H',I,q⟩:=h;exact⟨σ',H',I.unwish,q⟩
 |cont=>obtain⟨σ',H',I,q⟩:=h;exact⟨σ',H',I.unwish,q⟩
 |ret u=>obtain⟨v,σ',H',I,r,q⟩:=h;exact⟨v,σ',H',I.unwish,r,q⟩
end
section
variable{X:Cx}{st:Stmt}{rest:List Stmt}{t u:TS}{e:Expr}{te:TE}{pos:Pos}
noncomputable def eV:TS:=λD σ H=>D.nx σ H
noncomputable def nV(t u:TS):TS:=λD σ H=>t {D with nx:=u D} σ H
theorem mw:PSs X [] eV:=λ_ _ σ H _ I h=>wpAny_execs_nil ⟨σ,H,I,h⟩
theorem nM(h1:PS X st t)(h2:PSs X rest u):PSs X (st::rest) (nV t u):=by
 intro pins s σ H D I h;refine wpAny_execs_cons (thn (h1 pins s σ H {D with nx:=u D} I h) λf s1 q=>?_);cases f with
 |next=>
  obtain⟨σ',H',I',q⟩:=q;exact h2 pins s1 σ' H' D I' q
 |ret v=>exact q
 |brk=>exact q
 |cont=>exact q
noncomputable def wN:TS:=λD σ H=>D.bk σ H
noncomputable def oJ:TS:=λD σ H=>D.ct σ H
theorem o8:PS X (.Pass pos) eV:=λ_ _ σ H _ I h=>wpAny_Pass ⟨σ,H,I,h⟩
theorem nR:PS X (.Break pos) wN:=λ_ _ σ H _ I h=>wpAny_Break ⟨σ,H,I,h⟩
theorem rB:PS X (.Continue pos) oJ:=λ_ _ σ H _ I h=>wpAny_Continue ⟨σ,H,I,h⟩
theorem Inv.quiet{pins:List (Addr×Obj)}{σ:St}{H:Hp}{s:af}(I:Inv X pins σ H s):interactive X.env=false:=by simp[interactive,I.ok.kind]
noncomputable def pW(te:TE):TS:=λD σ H=>te σ H λ_ H1=>D.nx σ H1
theorem lH(he:PE X e te)(hs:swapsWith e none pos.line X.env=pure false:=by rfl):PS X (.Expr e pos) (pW te):=by
 intro pins s σ H D I h;exact wpAny_Expr_any (thn (he pins s σ H _ I h) λv s1 ⟨x,H1,I1,r1,q1⟩=>⟨σ,H1,I1,q1⟩) I.quiet hs
noncomputable def n8(te:TE):TS:=λD σ H=>te σ H D.rt
theorem jS(he:PE X e te):PS X (.Return (some e) pos) (n8 te):=by
 intro pins s σ H D I h;exact wpAny_Return_some (thn (he pins s σ H _ I h) λv s1 ⟨x,H1,I1,r1,q1⟩=>⟨x,σ,H1,I1,r1,q1⟩)
noncomputable def sO:TS:=λD _ H=>D.rt .non H
theorem vF:PS X (.Return none pos) sO:=λ_ _ σ H _ I h=>wpAny_Return_none ⟨.non,σ,H,I,rfl,h⟩
noncomputable def fZ(c:TT)(t u:TS):TS:=λD σ H=>c σ H λb H1=>if b=true then t D σ H1 else u D σ H1
theorem pU{c:Expr}{a b:List Stmt}{tc:TT}(hc:PT X c tc)(ha:PSs X a t)(hb:PSs X b u):PS X (.If c a b pos) (fZ tc t u):=by
 intro pins s σ H D I h;refine wpAny_If (thn (hc pins s σ H _ I h) λd s1 ⟨H1,I1,q1⟩=>?_);cases d with
 |true=>exact ha pins s1 σ H1 D I1 q1
 |false=>exact hb pins s1 σ H1 D I1 q1
end
abbrev TG:=V->St->Hp->(St->Hp->Prop)->Prop
abbrev TGs:=List V->St->Hp->(St->Hp->Prop)->Prop
noncomputable def PG(X:Cx)(target:Expr)(t:TG):Prop:=
 ∀(pins:List (Addr×Obj)) (s:af) (σ:St) (H:Hp) (v:V) (u:ae) (Q:St->Hp->Prop),Inv X pins σ H s->RelV v u->t v σ H Q ->
  ak (ao X.prog X.w) X.A (assign target X.env u) (λ_ s'=>∃σ' H',Inv X pins σ' H' s'/\Q σ' H') X.xe s
noncomputable def PGs(X:Cx)(ts:List Expr)(t:TGs):Prop:=
 ∀(pins:List (Addr×Obj)) (s:af) (σ:St) (H:Hp) (vs:List V) (us:List ae) (Q:St->Hp->Prop),Inv X pins σ H s->Vals vs us->t vs σ H Q ->
  ak (ao X.prog X.w) X.A (assignInOrder ((assignEach ts X.env).map (·.2)) us) (λ_ s'=>∃σ' H',Inv X pins σ' H' s'/\Q σ' H') X.xe s
abbrev iI:=V->V->V->Hp->(Hp->Prop)->Prop
noncomputable def kK(X:Cx)(t:iI):Prop:=
 ∀(pins:List (Addr×Obj)) (s:af) (σ:St) (H:Hp) (o i v:V) (ov iv u:ae) (Q:Hp->Prop),Inv X pins σ H s->RelV o ov->RelV i iv->RelV v u->t o i v H Q ->
  ak (ao X.prog X.w) X.A (setItem ov iv u) (λ_ s'=>∃H',Inv X pins σ H' s'/\Q H') X.xe s
section
variable{X:Cx}{pos:Pos}
noncomputable def dg(i:Nat):TG:=λv σ H Q=>Q (σ.set i (some v)) H
theorem vK{i:Nat}{x:Str}(hN:X.N.Nodup)(hi:X.N[i]? = some x)(hx:Loc X.env.scope x)(hf:X.fn x=true\/X.env.scope.names.lookup x=some .local:=by first|exact .inl rfl|exact .inr rfl|assumption):PG X (.Name x pos) (dg i):=by
 intro pins s σ H v u Q I r h;exact wpAny_assign_Name (iK I hN hi hx r (λs' I'=>⟨_,H,I',h⟩) hf)
noncomputable def lQ:TGs:=λvs σ H Q=>vs=[]/\Q σ H
noncomputable def jK(t:TG)(u:TGs):TGs:=λvs σ H Q=>∃v r,vs=v::r/\t v σ H λσ' H'=>u r σ' H' Q
theorem uW:PGs X [] lQ:=by
 intro pins s σ H vs us Q I r h;obtain⟨e,h⟩:=h;subst e;cases r;exact assignInOrder_nil ⟨σ,H,I,h⟩
theorem pk{e:Expr}{es:List Expr}{t:TG}{u:TGs}(h1:PG X e t)(h2:PGs X es u)
  (hs:(assignEach (e::es) X.env).map (·.2)=assign e X.env::(assignEach es X.env).map (·.2):=by rfl):PGs X (e::es) (jK t u):=by
 intro pins s σ H vs us Q I r h;obtain⟨v,vr,e1,h⟩:=h;subst e1;cases r with
 |cons r rr=>
  rw[hs];refine assignInOrder_cons (thn (h1 pins s σ H _ _ _ I r h) λ_ s1 ⟨σ1,H1,I1,q1⟩=>?_);exact h2 pins s1 σ1 H1 _ _ Q I1 rr q1
noncomputable def jm(K:aq)(n:Nat)(t:TGs):TG:=λv σ H Q=>∃a xs,v=.ref a/\SqT K H a xs/\xs.length=n/\t xs σ H Q
theorem oh{es:List Expr}{k:Nat}{t:TGs}{n:Nat}(hc:X.calm=true)(h:PGs X es t)
  (hn:(assignEach es X.env).length=n:=by rfl) (hst:(assignEach es X.env).findIdx? (·.1)=none:=by rfl):PG X (.Tuple es k pos) (jm X.K n t):=by
 intro pins s σ H v u Q I r hw;obtain⟨a,xs,e1,hq,hl,hw⟩:=hw;subst e1;cases r;obtain⟨its,rv,ht,hz⟩:=I.tuple hq;refine assign_Tuple_tuple (I.ok.hd hc) ht (by simp[hn,<-hl,rv.length]) hst λh' hx=>?_
 have I1:Inv X pins σ H {s with heap:=h'}:=I.kept (t':=s.toks) λb o e=>hx b o (aU (aE e)) e
 exact h pins _ σ H xs _ Q I1 (by simpa using rv) hw
noncomputable def jq(to ti:TE)(t:iI):TG:=λv σ H Q=>to σ H λo H1=>ti σ H1 λi H2=>t o i v H2 λH3=>Q σ H3
theorem tw{o i:Expr}{to ti:TE}{t:iI}(ho:PE X o to)(hi:PE X i ti)(hs:kK X t)
  (ha:∀v,assign (.Subscript o i pos) X.env v=(do
   let ov <-holding [v] (eval o X.env)
   let iv <-holding [v,ov] (eval i X.env)
   standAt pos
   holding [v,ov,iv] (setItem ov iv v)
   release [v,ov,iv] []):=by intro _;rfl):PG X (.Subscript o i pos) (jq to ti t):=by
 intro pins s σ H v u Q I r h;rw[ha];refine au (wpAny_holding (thn (ho pins s σ H _ I h) λov s1 ⟨x,H1,I1,r1,q1⟩=>?_));refine au (wpAny_holding (thn (hi pins s1 σ H1 _ I1 q1) λiv s2 ⟨y,H2,I2,r2,q2⟩=>?_));refine au (wpAny_standAt (au (wpAny_holding (thn (hs pins s2 σ H2 x y v ov iv u _ I2 r1 r2 r q2) λ_ s3 ⟨H3,I3,q3⟩=>?_))));exact wpAny_release ⟨σ,H3,I3,q3⟩
noncomputable def gv(te:TE)(g:TG):TS:=λD σ H=>te σ H λx H1=>g x σ H1 D.nx
theorem ku{tg e:Expr}{te:TE}{g:TG}(he:PE X e te)(hg:PG X tg g)(hs:swapsWithSole [tg] e pos.line X.env=pure false:=by rfl)(hw:swappedStores [tg] e X.env=pure none:=by rfl)
  (h1:(assignEach [tg] X.env).map (·.2)=[assign tg X.env]:=by rfl):PS X (.Assign [tg] e pos) (gv te g):=by
 intro pins s σ H D I h;refine wpAny_Assign_stores (thn (he pins s σ H _ I h) λv s1 ⟨x,H1,I1,r1,q1⟩=>?_) hs hw;rw[h1];exact thn (hg pins s1 σ H1 x v _ I1 r1 q1) λ_ s2 q=>q
theorem lL{i:Nat}{x:Str}{e:Expr}{te:TE}{pos':Pos}(hN:X.N.Nodup)(hi:X.N[i]? = some x)(hx:Loc X.env.scope x)(he:PE X e te)(hs:swapsWith e (some (.Name x pos')) pos.line X.env=pure false:=by rfl)(hf:X.fn x=true\/X.env.scope.names.lookup x=some .local:=by first|exact .inl rfl|exact .inr rfl|assumption) :
  PS X (.Assign [.Name x pos'] e pos) (gv te (dg i)):=by
 intro pins s σ H D I h;refine wpAny_Assign_Name (thn (he pins s σ H _ I h) λv s1 ⟨y,H1,I1,r1,q1⟩=>?_) hs;exact iK I1 hN hi hx r1 (λs2 I2=>⟨_,H1,I2,q1⟩) hf
end
section
variable{X:Cx}{pos:Pos}
end
structure It where
 go:Nat->Hp->Prop
 yld:Nat->Hp->V->Hp->Prop
 stop:Nat->Hp->Prop
noncomputable def b4(X:Cx)(pins:List (Addr×Obj))(H:Hp)(b:Addr):Prop:=
 H b=none/\b≠X.env.locals/\b∉X.fs/\(b∈X.ex\/X.s₀.heap.objs.size<=b)/\(∀x c,X.env.cells.lookup x=some c->c≠b)/\∀p∈X.pn++pins,p.1≠b
theorem Inv.fpOk{X:Cx}{pins:List (Addr×Obj)}{σ:St}{H H':Hp}{s:af}{b:Addr}(I:Inv X pins σ H s)(hb:s.heap.objs.size<=b)(hn:H' b=none):b4 X pins H' b:=by
 refine⟨hn,Nat.ne_of_gt (aX I.lt hb),I.nofs hb,.inr (aS I.sz hb),λx c e z=>?_,λp hp z=>?_⟩
 ·obtain⟨v,q⟩:=I.cell x c e;exact absurd (aX q.lt (by rw[z];exact hb)) (bp _)
 ·exact absurd (aX (aE (I.pin p hp).1) (by rw[z];exact hb)) (bp _)
structure Turn(P:aw)(w:ar)(K:aq)(tg:Expr)(J:It)(fp:List Addr)(it:Addr)(tn:Nat->Heap->Prop):Prop where
 mem:it∈fp
 obj:∀i h,tn i h->∀b∈fp,∃o,h.get? b=some o/\∀v,o.data≠.cell v
 keep:∀i h h',tn i h->(∀b∈fp,∀o,h.get? b=some o->h'.get? b=some o)->tn i h'
 item:∀(X:Cx),X.prog=P->X.w=w->X.K=K->X.calm=true->∀(i:Nat) (pins:List (Addr×Obj)) (s:af) (σ:St) (H:Hp) (E:ae->af->Prop),Inv X pins σ H s->(∀b∈fp,b4 X pins H b)->tn i s.heap->J.go i H ->
  ak (ao P w) X.A (pyNext (.ref it)) (λr s1=>∃u,r=some u /\
   ak (ao P w) X.A (letOwnedTupleGo tg (.ref it) u) (λ_ s2=>∃x H',Inv X pins σ H' s2/\RelV x u/\J.yld i H x H'/\tn (i+1) s2.heap/\∀b∈fp,H' b=none) E s1) E s
 done:∀(X:Cx),X.prog=P->X.w=w->X.K=K->X.calm=true->∀(i:Nat) (pins:List (Addr×Obj)) (s:af) (σ:St) (H:Hp) (E:ae->af->Prop),Inv X pins σ H s->(∀b∈fp,b4 X pins H b)->tn i s.heap->J.stop i H ->
  ak (ao P w) X.A (pyNext (.ref it)) (λr s1=>r=none/\Inv X pins σ H s1) E s
 self:∀(A:av) (i:Nat) (s:af) (Q:ae->af->Prop) (E:ae->af->Prop),tn i s.heap->Q (.ref it) s->ak (ao P w) A (pyIter (.ref it)) Q E s
abbrev TI:=St->Hp->(It->Hp->Prop)->Prop
noncomputable def PIE(X:Cx)(pins:List (Addr×Obj))(σ:St)(tg:Expr)(R:It->Hp->Prop)(itv:ae)(s2:af):Prop:=
 ∃(it:Addr) (fp:List Addr) (tn:Nat->Heap->Prop) (J:It) (H':Hp),itv=.ref it/\Inv X pins σ H' s2/\Turn X.prog X.w X.K tg J fp it tn/\tn 0 s2.heap/\(∀b∈fp,b4 X pins H' b)/\R J H'
noncomputable def PI(X:Cx)(tg iter:Expr)(wi:TI):Prop:=
 ∀(pins:List (Addr×Obj)) (s:af) (σ:St) (H:Hp) (R:It->Hp->Prop),Inv X pins σ H s->wi σ H R ->
  ak (ao X.prog X.w) X.A (eval iter X.env) (λv s1=>ak (ao X.prog X.w) X.A (pyIter v) (PIE X pins σ tg R) X.xe s1) X.xe s
theorem gK{M:Model}{A:av}{E:ae->af->Prop}{s:af}{tg:Expr}{it:Addr}{u:ae}{o:Obj}{n:String}{vs:Array ae}{Q:Unit->af->Prop}(ho:s.heap.get? it=some o)(hc:o.cls=.type n)(hd:o.data=.fields vs)
  (hn:["enumerate","zip","dict_itemiterator","dict_reverseitemiterator","odict_iterator","itertools.zip_longest","itertools.pairwise"].contains n=false) (hQ:Q () s):ak M A (letOwnedTupleGo tg (.ref it) u) Q E s:=by
 unfold letOwnedTupleGo;cases tg<;>first
  |exact aD hQ
  | (cases u<;>first
    |exact aD hQ
    | (refine au (wpAny_load ho ?_)
       rw[hc,hd];show ak M A (if (["enumerate","zip","dict_itemiterator","dict_reverseitemiterator","odict_iterator","itertools.zip_longest","itertools.pairwise"].contains n&&vs[0]? == some (rawInt _))=true then _ else _) Q E s;rw[if_neg (by intro h;rw[hn,Bool.false_and]at h;cases h)];exact aD hQ))
noncomputable def Itl(K:aq)(a:Addr):It:=
 ⟨λi H=>∃xs x,SqL K H a xs/\xs[i]? = some x,λi H x H'=>H'=H/\∀xs,SqL K H a xs->xs[i]? = some x,λi H=>∃xs,SqL K H a xs/\xs.length<=i⟩
noncomputable def Itt(K:aq)(a:Addr):It:=
 ⟨λi H=>∃xs x,SqT K H a xs/\xs[i]? = some x,λi H x H'=>H'=H/\∀xs,SqT K H a xs->xs[i]? = some x,λi H=>∃xs,SqT K H a xs/\xs.length<=i⟩
noncomputable def Itr(lo:Int)(n:Nat):It:=⟨λi _=>i<n,λi H x H'=>H'=H/\x=.int (lo+i),λi _=>n<=i⟩
theorem o_{P:aw}{w:ar}{K:aq}{tg:Expr}(a it:Addr):Turn P w K tg (Itl K a) [it] it (λi h=>h.IsListIter it a i) where
 mem:=by simp
 obj:=λi h st b hb=>by
  have e:b=it:=by simpa using hb
  subst e;obtain⟨o,e,c,d⟩:=st;exact⟨o,e,λv z=>by rw[d]at z;cases z⟩
 keep:=λi h h' st k=>st.at λo e=>k it (by simp) o e
 item:=by
  intro X hP hw hK hc i pins s σ H E I hf st hg;subst hP hw hK;obtain⟨xs,x,hq,hx⟩:=hg;obtain⟨its,rv,p,hz⟩:=I.list hq;obtain⟨u,hu,ru⟩:=rv.get hx;obtain⟨f0,f1,f2,f3,f4,f5⟩:=hf it (by simp);refine wpAny_pyNext_list_item st p.isList (x:=u) (by simpa using hu) λh' st' sb=>?_
  have I1:Inv X pins σ H {s with heap:=h'}:=I.turned (t':=s.toks) (λb o hb e=>(sb.2 b hb).trans e) f0 f1 f3 f4 f5;obtain⟨o,e,c,d⟩:=id st';exact⟨u,rfl,gK (s:={s with heap:=h'}) e c d (by decide) ⟨x,H,I1,ru,⟨rfl,λys hy=>by rw[I.list_inj hy hq];exact hx⟩,st',λb hb=>(hf b hb).1⟩⟩
 done:=by
  intro X hP hw hK hc i pins s σ H E I hf st hg;subst hP hw hK;obtain⟨xs,hq,hx⟩:=hg;obtain⟨its,rv,p,hz⟩:=I.list hq;obtain⟨f0,f1,f2,f3,f4,f5⟩:=hf it (by simp);have hl:=rv.length;exact wpAny_pyNext_list_end (I.ok.hd hc) st p.isList (by simp;lia) λh' eb=>⟨rfl,I.turned (t':=s.toks) (λb o hb e=>eb b o hb e) f0 f1 f3 f4 f5⟩
 self:=λ_ _ _ _ _ st h=>wpAny_pyIter_listiter st h
theorem wO{P:aw}{w:ar}{K:aq}{tg:Expr}(a it:Addr):Turn P w K tg (Itt K a) [it] it (λi h=>h.IsTupleIter it a i) where
 mem:=by simp
 obj:=λi h st b hb=>by
  have e:b=it:=by simpa using hb
  subst e;obtain⟨o,e,c,d⟩:=st;exact⟨o,e,λv z=>by rw[d]at z;cases z⟩
 keep:=λi h h' st k=>st.at λo e=>k it (by simp) o e
 item:=by
  intro X hP hw hK hc i pins s σ H E I hf st hg;subst hP hw hK;obtain⟨xs,x,hq,hx⟩:=hg;obtain⟨its,rv,p,hz⟩:=I.tuple hq;obtain⟨u,hu,ru⟩:=rv.get hx;obtain⟨f0,f1,f2,f3,f4,f5⟩:=hf it (by simp);refine wpAny_pyNext_tuple_item st (show s.heap.IsTuple a its.toArray from p) (x:=u) (by simpa using hu) λh' st' sb=>?_
  have I1:Inv X pins σ H {s with heap:=h'}:=I.turned (t':=s.toks) (λb o hb e=>(sb.2 b hb).trans e) f0 f1 f3 f4 f5;obtain⟨o,e,c,d⟩:=id st';exact⟨u,rfl,gK (s:={s with heap:=h'}) e c d (by decide) ⟨x,H,I1,ru,⟨rfl,λys hy=>by rw[I.tuple_inj hy hq];exact hx⟩,st',λb hb=>(hf b hb).1⟩⟩
 done:=by
  intro X hP hw hK hc i pins s σ H E I hf st hg;subst hP hw hK;obtain⟨xs,hq,hx⟩:=hg;obtain⟨its,rv,p,hz⟩:=I.tuple hq;obtain⟨f0,f1,f2,f3,f4,f5⟩:=hf it (by simp);have hl:=rv.length;exact wpAny_pyNext_tuple_end (I.ok.hd hc) st (show s.heap.IsTuple a its.toArray from p) (by simp;lia) λh' eb=>⟨rfl,I.turned (t':=s.toks) (λb o hb e=>eb b o hb e) f0 f1 f3 f4 f5⟩
 self:=λ_ _ _ _ _ st h=>wpAny_pyIter_tupleiter st h
theorem oO{P:aw}{w:ar}{K:aq}{tg:Expr}(it:Addr)(lo:Int)(n:Nat):Turn P w K tg (Itr lo n) [it] it (λi h=>IsRangeIter h it (lo+(i:Nat) * 1) ((n:Int)-(i:Nat)) 1) where
 mem:=by simp
 obj:=λi h st b hb=>by
  have e:b=it:=by simpa using hb
  subst e;exact⟨_,st,λv z=>by
   have z':Data.fields _=Data.cell v:=z;cases z'⟩
 keep:=λi h h' st k=>k it (by simp) _ st
 item:=by
  intro X hP hw hK hc i pins s σ H E I hf st hg;subst hP hw hK;obtain⟨f0,f1,f2,f3,f4,f5⟩:=hf it (by simp);have W:=Walks.range (prog:=X.prog) (w:=X.w) (I.ok.hd hc) it lo 1 n;refine W.item i s _ _ hg st λv h' tk hv st' kk=>?_
  obtain⟨t,rfl⟩:=hv;have I1:Inv X pins σ H {s with heap:=h',toks:=tk}:=I.turned (λb o hb e=>kk b o (by simpa using hb) e) f0 f1 f3 f4 f5;refine⟨_,rfl,gK (s:={s with heap:=h',toks:=tk}) (n:="range_iterator") st' rfl rfl (by decide) ⟨.int (lo+i),H,I1,⟨t,?_⟩,⟨rfl,rfl⟩,st',λb hb=>(hf b hb).1⟩⟩;rw[Int.mul_one]
 done:=by
  intro X hP hw hK hc i pins s σ H E I hf st hg;subst hP hw hK;obtain⟨f0,f1,f2,f3,f4,f5⟩:=hf it (by simp);exact wpAny_pyNext_range_end (I.ok.hd hc) st (by have:n<=i:=hg;lia) λh' eb=>⟨rfl,I.turned (t':=s.toks) (λb o hb e=>eb b o hb e) f0 f1 f3 f4 f5⟩
 self:=λ_ _ _ _ _ st h=>wpAny_pyIter_rangeiter st h
section
variable{X:Cx}{tg:Expr}
noncomputable def uT(K:aq)(tl:TE):TI:=λσ H R=>tl σ H λx H1=>∃a,x=.ref a/\(∃xs,SqL K H1 a xs)/\R (Itl K a) H1
noncomputable def vP(K:aq)(tl:TE):TI:=λσ H R=>tl σ H λx H1=>∃a,x=.ref a/\(∃xs,SqT K H1 a xs)/\R (Itt K a) H1
theorem m5{l:Expr}{tl:TE}(hl:PE X l tl):PI X tg l (uT X.K tl):=by
 intro pins s σ H R I h;refine thn (hl pins s σ H _ I h) λv s1 ⟨x,H1,I1,r1,q1⟩=>?_
 obtain⟨a,e,⟨xs,hq⟩,q⟩:=q1;subst e;cases r1;obtain⟨its,rv,p,hz⟩:=I1.list hq;refine wpAny_pyIter_list p.isList ?_;refine⟨s1.heap.objs.size,[s1.heap.objs.size],_,_,H1,rfl,I1.kept (t':=s1.toks) λb o e=>Heap.get?_push_of_some _ e,o_ a _,⟨_,Heap.get?_push_size _ rfl,rfl,rfl⟩,λb hb=>?_,q⟩;have e:b=s1.heap.objs.size:=by simpa using hb
 subst e;exact I1.fpOk (aC _) (I1.hok.fresh (aC _))
theorem oI{l:Expr}{tl:TE}(hl:PE X l tl):PI X tg l (vP X.K tl):=by
 intro pins s σ H R I h;refine thn (hl pins s σ H _ I h) λv s1 ⟨x,H1,I1,r1,q1⟩=>?_
 obtain⟨a,e,⟨xs,hq⟩,q⟩:=q1;subst e;cases r1;obtain⟨its,rv,p,hz⟩:=I1.tuple hq;refine wpAny_pyIter_tuple (show s1.heap.IsTuple a its.toArray from p) ?_;refine⟨s1.heap.objs.size,[s1.heap.objs.size],_,_,H1,rfl,I1.kept (t':=s1.toks) λb o e=>Heap.get?_push_of_some _ e,wO a _,⟨_,Heap.get?_push_size _ rfl,rfl,rfl⟩,λb hb=>?_,q⟩;have e:b=s1.heap.objs.size:=by simpa using hb
 subst e;exact I1.fpOk (aC _) (I1.hok.fresh (aC _))
theorem ly{pins:List (Addr×Obj)}{σ:St}{H:Hp}{s:af}{R:It->Hp->Prop}{E:ae->af->Prop}{lo hi:Int}{t u v:Tok}{tk:Nat}(I:Inv X pins σ H s)(h1:-(2^62)<=lo)(h2:lo<2^62)(h3:-(2^62)<=hi)(h4:hi<2^62)
  (q:R (Itr lo (hi-lo).toNat) H):ak (ao X.prog X.w) X.A (pyIter (.ref s.heap.objs.size)) (PIE X pins σ tg R) E {s with heap:=s.heap.push {cls:=.type "range",data:=.fields #[.int lo t,.int hi u,.int 1 v]},toks:=tk}:=by
 refine wpAny_pyIter_range (IsRange.new ..) (small_one h1 h2 h3 h4) ?_;have I1:Inv X pins σ H {s with heap:=s.heap.push {cls:=.type "range",data:=.fields #[.int lo t,.int hi u,.int 1 v]},toks:=tk}:=I.kept λb o e=>Heap.get?_push_of_some _ e
 refine⟨(s.heap.push {cls:=.type "range",data:=.fields #[.int lo t,.int hi u,.int 1 v]}).objs.size,[(s.heap.push {cls:=.type "range",data:=.fields #[.int lo t,.int hi u,.int 1 v]}).objs.size],_,_,H,rfl,
  I1.kept (t':=tk) λb o e=>Heap.get?_push_of_some _ e,oO _ lo (hi-lo).toNat,?_,λb hb=>?_,q⟩
 ·have e1:lo+((0:Nat):Int) * 1=lo:=by simp
  have e2:(((hi-lo).toNat:Nat):Int)-((0:Nat):Int)=Builtin.Range.rangeSize lo hi 1:=by rw[rangeSize_one];split<;>lia
  show IsRangeIter _ _ (lo+((0:Nat):Int) * 1) ((((hi-lo).toNat:Nat):Int)-((0:Nat):Int)) 1;rw[e1,e2];exact Heap.get?_push_size _ rfl
 ·have e:b=(s.heap.push {cls:=.type "range",data:=.fields #[.int lo t,.int hi u,.int 1 v]}).objs.size:=by simpa using hb
  subst e;exact I1.fpOk (aC _) (I1.hok.fresh (aC _))
noncomputable def nK(ta:TA):TI:=λσ H R=>ta σ H λvs H1=>∃j:Int,vs=[.int j]/\-(2^62)<=j/\j<2^62/\R (Itr 0 j.toNat) H1
noncomputable def oM(ta:TA):TI:=λσ H R=>ta σ H λvs H1=>∃i j:Int,vs=[.int i,.int j]/\(-(2^62)<=i/\i<2^62/\-(2^62)<=j/\j<2^62)/\R (Itr i (j-i).toNat) H1
theorem nP{a:Expr}{ta:TA}{p pos:Pos}(hg:Gl X "range")(hm:X.mg "range" = none)(ha:PA X [a] ta)(hs:aK [a] X.env=[(false,eval a X.env)]:=by rfl):PI X tg (.Call (.Name "range" p) [a] [] pos) (nK ta):=by
 intro pins s σ H R I h;refine Call_ (et I hg hm boot_range (PyProof.Rows.callWith_type1 (thn (ha pos pins s σ H _ I h) λus s1 ⟨vs,H1,I1,r1,q1⟩=>?_) hs rfl));obtain⟨j,e,q1,q2,q⟩:=q1;subst e;cases r1 with
 |cons r rr=>
  cases rr;obtain⟨t,rfl⟩:=r;exact call_range_1 (ly I1 (by lia) (by lia) q1 q2 (by simpa using q))
theorem nY{a b:Expr}{ta:TA}{p pos:Pos}(hg:Gl X "range")(hm:X.mg "range" = none)(ha:PA X [a,b] ta)(hs:aK [a,b] X.env=[(false,eval a X.env),(false,eval b X.env)]:=by rfl)(hs2:aK [b] X.env=[(false,eval b X.env)]:=by rfl) :
  PI X tg (.Call (.Name "range" p) [a,b] [] pos) (oM ta):=by
 intro pins s σ H R I h;refine Call_ (et I hg hm boot_range (PyProof.Rows.callWith_type1 (thn (ha pos pins s σ H _ I h) λus s1 ⟨vs,H1,I1,r1,q1⟩=>?_) (by rw[hs,hs2]) (by rw[hs2];rfl)));obtain⟨i,j,e,⟨q1,q2,q3,q4⟩,q⟩:=q1;subst e;cases r1 with
 |cons r rr=>
  cases rr with
  |cons r' rr=>
   cases rr;obtain⟨t,rfl⟩:=r;obtain⟨t',rfl⟩:=r';exact call_range_2 (ly I1 q1 q2 q3 q4 q)
noncomputable def uv(wi:TI)(g:TG)(tb:TS):TS:=λD σ H=>wi σ H λJ H1=>∃W:Nat->Nat->St->Hp->Prop,(∃m,W 0 m σ H1)/\∀i m σ H,W i m σ H ->
 (J.stop i H/\D.nx σ H)\/(J.go i H/\∃N:St->Hp->Prop,(∀σ' H',N σ' H'->∃m',m'<m/\W (i+1) m' σ' H')/\∀x H',J.yld i H x H'->g x σ H' λσ2 H2=>tb {D with nx:=N,ct:=N,bk:=D.nx} σ2 H2)
noncomputable def eQ(fp:List Addr)(h:Heap):List (Addr×Obj):=fp.filterMap λb=>(h.get? b).map λo=>(b,o)
theorem gf{fp:List Addr}{h:Heap}{b:Addr}{o:Obj}(hb:b∈fp)(e:h.get? b=some o):(b,o)∈eQ fp h:=List.mem_filterMap.mpr ⟨b,hb,by rw[e];rfl⟩
theorem p8{fp:List Addr}{h:Heap}{p:Addr×Obj}(hp:p∈eQ fp h):p.1∈fp/\h.get? p.1=some p.2:=by
 obtain⟨b,hb,e⟩:=List.mem_filterMap.mp hp;cases q:h.get? b with
 |none=>rw[q]at e;cases e
 |some o=>
  rw[q]at e;have e':(b,o)=p:=br e;subst e';exact⟨hb,q⟩
theorem Inv.pinned{pins:List (Addr×Obj)}{σ:St}{H:Hp}{s:af}{fp:List Addr}(I:Inv X pins σ H s)(hf:∀b∈fp,b4 X pins H b)(ho:∀b∈fp,∃o,s.heap.get? b=some o/\∀v,o.data≠.cell v):Inv X (pins++eQ fp s.heap) σ H s:=
 I.pins_of λp hp=>(List.mem_append.mp hp).elim (λz=>I.pin p (bF _ z)) λz=>by
  obtain⟨hb,e⟩:=p8 z;obtain⟨f0,f1,f2,_⟩:=hf p.1 hb;obtain⟨o,e',d⟩:=ho p.1 hb;rw[e]at e';cases e';exact⟨e,f0,f1,f2,d⟩
theorem Inv.unpinned{pins pl:List (Addr×Obj)}{σ:St}{H:Hp}{s:af}(I:Inv X (pins++pl) σ H s):Inv X pins σ H s:=I.pins_of λp hp=>I.pin p (bF _ (List.mem_append_left _ hp))
theorem nB{iter:Expr}{body:List Stmt}{wi:TI}{g:TG}{tb:TS}{pos:Pos}(hp:PassesOwn (ao X.prog X.w) X.A X.env X.xe)(hc:X.calm=true)(hi:PI X tg iter wi)(hg:PG X tg g)(hb:PSs X body tb)
  (hs:∀x,foldedSetIterable iter X.env x=pure x:=by intro _;rfl):PS X (.For tg iter body [] pos) (uv wi g tb):=by
 intro pins s σ H D I h;refine wpAny_For (thn (hi pins s σ H _ I h) λv s1 h1=>thn h1 λitv s2 h2=>?_) hs;obtain⟨it,fp,tn,J,H2,e,I2,T,st2,f2,W,⟨m0,w0⟩,turn⟩:=h2;subst e
 -- what stays true of the iterator's objects through the loop
 have stat:∀{H':Hp},(∀b∈fp,H' b=none)->∀b∈fp,b4 X pins H' b:=λhn b hb=>⟨hn b hb,(f2 b hb).2⟩
 refine codeAny_forLoop_any (λn s'=>∃i σ' H',Inv X pins σ' H' s'/\tn i s'.heap/\(∀b∈fp,H' b=none)/\W i n σ' H') ?_ m0 ⟨0,σ,H2,I2,st2,λb hb=>(f2 b hb).1,w0⟩;rintro n s3 ⟨i,σ3,H3,I3,st3,fr3,w3⟩;rcases turn i n σ3 H3 w3 with ⟨stop,qn⟩|⟨go,N,hN,step⟩
 ·refine wpAny_passesOwn hp (thn (T.done X rfl rfl rfl hc i pins s3 σ3 H3 X.xe I3 (stat fr3) st3 stop) λr s4 ⟨hr,I4⟩=>?_);subst hr;exact wpAny_execs_nil ⟨σ3,H3,I4,qn⟩
 ·refine wpAny_passesOwn hp (thn (T.item X rfl rfl rfl hc i pins s3 σ3 H3 X.xe I3 (stat fr3) st3 go) λr s4 ⟨u,hr,h4⟩=>?_);subst hr;refine wpAny_passesOwn hp (thn h4 λ_ s5 ⟨x,H5,I5,r5,y5,st5,fr5⟩=>?_);have I5':=I5.pinned (stat fr5) (T.obj _ _ st5);refine wpAny_passesOwn hp (thn (hg _ s5 σ3 H5 x u _ I5' r5 (step x H5 y5)) λ_ s6 ⟨σ6,H6,I6,q6⟩=>?_);refine wpAny_passesOwn hp (thn (hb _ s6 σ6 H6 _ I6 q6) λf s7 q7=>?_);have again:∀{σ7:St}{H7:Hp},Inv X (pins++eQ fp s5.heap) σ7 H7 s7->N σ7 H7->∃m,m<n/\∃i σ' H',Inv X pins σ' H' s7/\tn i s7.heap/\(∀b∈fp,H' b=none)/\W i m σ' H':=λ{σ7 H7} I7 n7=>by
   obtain⟨m',hm,w7⟩:=hN σ7 H7 n7;refine⟨m',hm,i+1,σ7,H7,I7.unpinned,T.keep _ _ _ st5 λb hb o e=>(I7.pin (b,o) (bF _ (bF _ (gf hb e)))).1,λb hb=>?_,w7⟩;obtain⟨o,e,d⟩:=T.obj _ _ st5 b hb;exact(I7.pin (b,o) (bF _ (bF _ (gf hb e)))).2.1
  cases f with
  |next=>obtain⟨σ7,H7,I7,n7⟩:=q7;exact again I7 n7
  |cont=>obtain⟨σ7,H7,I7,n7⟩:=q7;exact again I7 n7
  |brk=>obtain⟨σ7,H7,I7,q7⟩:=q7;exact⟨σ7,H7,I7.unpinned,q7⟩
  |ret v=>obtain⟨x7,σ7,H7,I7,r7,q7⟩:=q7;exact⟨x7,σ7,H7,I7.unpinned,r7,q7⟩
end
abbrev R2:=V->V->Hp->VK->Prop
noncomputable def OpR(X:Cx)(f:ae->ae->Sem ae)(r:R2):Prop:=
 ∀(pins:List (Addr×Obj)) (s:af) (σ:St) (H:Hp) (x y:V) (v u:ae) (Q:VK),Inv X pins σ H s->RelV x v->RelV y u->r x y H Q ->
  ak (ao X.prog X.w) X.A (f v u) (EP X pins σ Q) X.xe s
noncomputable def UnR(X:Cx)(f:ae->Sem ae)(r:V->Hp->VK->Prop):Prop:=
 ∀(pins:List (Addr×Obj)) (s:af) (σ:St) (H:Hp) (x:V) (v:ae) (Q:VK),Inv X pins σ H s->RelV x v->r x H Q ->
  ak (ao X.prog X.w) X.A (f v) (EP X pins σ Q) X.xe s
noncomputable def zh(X:Cx)(f:ae)(r:List V->Hp->VK->Prop):Prop:=
 ∀(pins:List (Addr×Obj)) (s:af) (σ:St) (H:Hp) (xs:List V) (us:List ae) (Q:VK),Inv X pins σ H s->Vals xs us->r xs H Q ->
  ak (ao X.prog X.w) X.A (call f us) (EP X pins σ Q) X.xe s
noncomputable def my(X:Cx)(r:V->Hp->(Bool->Hp->Prop)->Prop):Prop:=
 ∀(pins:List (Addr×Obj)) (s:af) (σ:St) (H:Hp) (x:V) (v:ae) (Q:Bool->Hp->Prop),Inv X pins σ H s->RelV x v->r x H Q ->
  ak (ao X.prog X.w) X.A (truthy v) (TP X pins σ Q) X.xe s
noncomputable def tOp(r:R2)(ta tb:TE):TE:=λσ H Q=>ta σ H λx H1=>tb σ H1 λy H2=>r x y H2 Q
noncomputable def tUn(r:V->Hp->VK->Prop)(ta:TE):TE:=λσ H Q=>ta σ H λx H1=>r x H1 Q
noncomputable def rI(C:Int->Int->Prop)(g:Int->Int->V):R2:=λx y H Q=>∃i j,x=.int i/\y=.int j/\C i j/\Q (g i j) H
noncomputable def rI0(g:Int->Int->V):R2:=λx y H Q=>∃i j,x=.int i/\y=.int j/\Q (g i j) H
noncomputable def rU(g:Int->V):V->Hp->VK->Prop:=λx H Q=>∃i,x=.int i/\Q (g i) H
section
variable{X:Cx}{a b c:Expr}{ta tb tc:TE}{pos:Pos}
theorem iD(ha:PE X a ta)(hb:PE X b tb){pins:List (Addr×Obj)}{s:af}{σ:St}{H:Hp}{R:V->V->Hp->Prop}(I:Inv X pins σ H s)
  (h:ta σ H λx H1=>tb σ H1 λy H2=>R x y H2) {Q:ae->af->Prop}{f:ae->ae->Sem ae}
  (hf:∀v u s2 x y H2,Inv X pins σ H2 s2->RelV x v->RelV y u->R x y H2->ak (ao X.prog X.w) X.A (f v u) Q X.xe s2) :
  ak (ao X.prog X.w) X.A (eval a X.env) (λv s₁=>ak (ao X.prog X.w) X.A (eval b X.env) (λu s₂=>ak (ao X.prog X.w) X.A (f v u) Q X.xe s₂) X.xe s₁) X.xe s:=by
 refine thn (ha pins s σ H _ I h) λv s1 ⟨x,H1,I1,r1,q1⟩=>?_
 refine thn (hb pins s1 σ H1 _ I1 q1) λu s2 ⟨y,H2,I2,r2,q2⟩=>?_
 exact hf v u s2 x y H2 I2 r1 r2 q2
theorem lE{op:Operator}{r:R2}(ho:OpR X (binaryOp op) r)(ha:PE X a ta)(hb:PE X b tb):PE X (.BinOp a op b pos) (tOp r ta tb):=by
 intro pins s σ H Q I h;exact wpAny_BinOp (iD ha hb I h λv u s2 x y H2 I2 rx ry q=>ho pins s2 σ H2 x y v u Q I2 rx ry q)
theorem uB{op:UnaryOp}{r:V->Hp->VK->Prop}(ho:UnR X (unaryOp op) r)(ha:PE X a ta):PE X (.UnaryOp op a pos) (tUn r ta):=by
 intro pins s σ H Q I h;exact UnaryOp_ (thn (ha pins s σ H _ I h) λv s1 ⟨x,H1,I1,r1,q1⟩=>ho pins s1 σ H1 x v Q I1 r1 q1)
theorem opI{f:ae->ae->Sem ae}{C:Int->Int->Prop}{g:Int->Int->Int}
  (rule:∀(i j:Int) (t u:Tok) (s:af) (Q:ae->af->Prop) (E:ae->af->Prop),C i j->Q (.int (g i j) s.toks) {s with toks:=s.toks+1}->ak (ao X.prog X.w) X.A (f (.int i t) (.int j u)) Q E s) :
  OpR X f (rI C λi j=>.int (g i j)):=by
 intro pins s σ H x y v u Q I rx ry h;obtain⟨i,j,rfl,rfl,hc,q⟩:=h;obtain⟨t,rfl⟩:=rx;obtain⟨t',rfl⟩:=ry;exact rule i j t t' s _ _ hc ⟨.int (g i j),H,I.tok _,⟨_,rfl⟩,q⟩
theorem kQ{f:ae->ae->Sem ae}{g:Int->Int->Int}
  (rule:∀(i j:Int) (t u:Tok) (s:af) (Q:ae->af->Prop) (E:ae->af->Prop),Q (.int (g i j) s.toks) {s with toks:=s.toks+1}->ak (ao X.prog X.w) X.A (f (.int i t) (.int j u)) Q E s) :
  OpR X f (rI0 λi j=>.int (g i j)):=by
 intro pins s σ H x y v u Q I rx ry h;obtain⟨i,j,rfl,rfl,q⟩:=h;obtain⟨t,rfl⟩:=rx;obtain⟨t',rfl⟩:=ry;exact rule i j t t' s _ _ ⟨.int (g i j),H,I.tok _,⟨_,rfl⟩,q⟩
theorem gi{f:ae->ae->Sem ae}{g:Int->Int->Bool}
  (rule:∀(i j:Int) (t u:Tok) (s:af) (Q:ae->af->Prop) (E:ae->af->Prop),Q (.bool (g i j)) s->ak (ao X.prog X.w) X.A (f (.int i t) (.int j u)) Q E s) :
  OpR X f (rI0 λi j=>.bl (g i j)):=by
 intro pins s σ H x y v u Q I rx ry h;obtain⟨i,j,rfl,rfl,q⟩:=h;obtain⟨t,rfl⟩:=rx;obtain⟨t',rfl⟩:=ry;exact rule i j t t' s _ _ ⟨.bl (g i j),H,I,rfl,q⟩
noncomputable def vZ(i j:Int):Prop:=0<=j/\j<=1000000/\i.natAbs<2^64
noncomputable def gW(i j:Int):Prop:=(-(2^64)<i/\i<2^64)\/(-(2^64)<j/\j<2^64)
theorem gW.ok{i j:Int}(h:gW i j):IntMulOk i j:=by
 rcases h with ⟨h1,h2⟩|⟨h1,h2⟩
 ·exact .of_left (intBits_le_64 h1 h2)
 ·exact .of_right (intBits_le_64 h1 h2)
theorem pH(k:Nat):(0:Int)<=2^k:=by
 rw[two_pow_cast];exact Int.natCast_nonneg _
theorem v_:OpR X (binaryOp .Add) (rI0 λi j=>.int (i+j)):=kQ λ_ _ _ _ _ _ _ q=>add_int q
theorem uX:OpR X (binaryOp .Sub) (rI0 λi j=>.int (i-j)):=kQ λ_ _ _ _ _ _ _ q=>sub_int q
theorem px:OpR X (binaryOp .Mult) (rI gW λi j=>.int (i * j)):=opI λ_ _ _ _ _ _ _ hc q=>mul_int q hc.ok
theorem sZ:OpR X (binaryOp .Mod) (rI (λ_ j=>0<j) λi j=>.int (i%j)):=opI λi j _ _ _ _ _ hc q=>by
 have h1:(0:Int)<j:=hc;exact mod_int' (by lia) (by rw[Int.fmod_eq_emod_of_nonneg i (by lia)];exact q)
theorem vB:OpR X (binaryOp .Pow) (rI vZ λi j=>.int (i^j.toNat)):=opI λ_ _ _ _ _ _ _ hc q=>pow_int_small hc.1 hc.2.1 hc.2.2 q
theorem xt:OpR X (binaryOp .RShift) (rI (λ_ j=>0<=j) λi j=>.int (i/2^j.toNat)):=opI λi j _ _ _ _ _ hc q=>
 rshift_int hc (by rw[Int.fdiv_eq_ediv_of_nonneg i (pH _)];exact q)
theorem unI{f:ae->Sem ae}{g:Int->Int}
  (rule:∀(i:Int) (t:Tok) (s:af) (Q:ae->af->Prop) (E:ae->af->Prop),Q (.int (g i) s.toks) {s with toks:=s.toks+1}->ak (ao X.prog X.w) X.A (f (.int i t)) Q E s) :
  UnR X f (rU λi=>.int (g i)):=by
 intro pins s σ H x v Q I rx h;obtain⟨i,rfl,q⟩:=h;obtain⟨t,rfl⟩:=rx;exact rule i t s _ _ ⟨.int (g i),H,I.tok _,⟨_,rfl⟩,q⟩
theorem sy:UnR X (unaryOp .USub) (rU λi=>.int (-i)):=unI λ_ _ _ _ _ q=>neg_int q
end
section
variable{X:Cx}{a b c:Expr}{ta tb tc:TE}{pos:Pos}
theorem fN{pins:List (Addr×Obj)}{σ:St}{H:Hp}{s:af}{Q:VK}{k k':Bool}(I:Inv X pins σ H s)(q:Q (.bl k) H)(e:k=k'):EP X pins σ Q (.bool k') s:=by
 subst e;exact⟨.bl k,H,I,rfl,q⟩
theorem oC:OpR X (aO .Lt) (rI0 λi j=>.bl (decide (i<j))):=gi λ_ _ _ _ _ _ _ q=>lt_int q
theorem mS:OpR X (aO .LtE) (rI0 λi j=>.bl (decide (i<=j))):=gi λ_ _ _ _ _ _ _ q=>le_int q
theorem rK:OpR X (aO .Gt) (rI0 λi j=>.bl (decide (j<i))):=gi λ_ _ _ _ _ _ _ q=>gt_int q
theorem uH:OpR X (aO .GtE) (rI0 λi j=>.bl (decide (j<=i))):=gi λ_ _ _ _ _ _ _ q=>ge_int q
theorem vA:OpR X (aO .Is) (λx y H Q=>y=.non/\Q (.bl (decide (x=.non))) H):=by
 intro pins s σ H x y v u Q I rx ry h;obtain⟨rfl,q⟩:=h;cases ry;refine is_none_gen (fN I q ?_);cases x<;>first
  | (cases rx;rfl)
  | (obtain⟨t,rfl⟩:=rx;rfl)
theorem oi:OpR X (aO .IsNot) (λx y H Q=>y=.non/\Q (.bl (!decide (x=.non))) H):=by
 intro pins s σ H x y v u Q I rx ry h;obtain⟨rfl,q⟩:=h;cases ry;refine isnot_none_gen (fN I q ?_);cases x<;>first
  | (cases rx;rfl)
  | (obtain⟨t,rfl⟩:=rx;rfl)
theorem OpR.or{f:ae->ae->Sem ae}{r r':R2}(h:OpR X f r)(h':OpR X f r'):OpR X f (λx y H Q=>r x y H Q\/r' x y H Q):=by
 intro pins s σ H x y v u Q I rx ry q;rcases q with q|q
 ·exact h pins s σ H x y v u Q I rx ry q
 ·exact h' pins s σ H x y v u Q I rx ry q
theorem vQ{op:CmpOp}{r:R2}(ho:OpR X (aO op) r)(ha:PE X a ta)(hb:PE X b tb)(hm:behindInMarks op b=false):PE X (.Compare a [op] [b] pos) (tOp r ta tb):=by
 intro pins s σ H Q I h;exact wpAny_Compare1 (iD ha hb I h λv u s2 x y H2 I2 rx ry q=>ho pins s2 σ H2 x y v u Q I2 rx ry q) hm
noncomputable def iy(t:TE):TT:=λσ H Q=>t σ H λx H'=>∃k,x=.bl k/\Q k H'
theorem sj{op:CmpOp}{r:R2}(ho:OpR X (aO op) r)(ha:PE X a ta)(hb:PE X b tb)(hm:behindInMarks op b=false):PT X (.Compare a [op] [b] pos) (iy (tOp r ta tb)):=by
 intro pins s σ H Q I h;refine wpAny_isTrue_Compare1 (thn (ha pins s σ H _ I h) λv s1 ⟨x,H1,I1,r1,q1⟩=>thn (hb pins s1 σ H1 _ I1 q1) λu s2 ⟨y,H2,I2,r2,q2⟩=>
  thn (ho pins s2 σ H2 x y v u _ I2 r1 r2 q2) λc s3 ⟨z,H3,I3,r3,k,e,q3⟩=>?_) hm
 subst e;cases r3;exact ba ⟨H3,I3,q3⟩
noncomputable def jA(r r':R2)(ta tb tc:TE):TE:=λσ H Q=>ta σ H λx H1=>tb σ H1 λy H2=>r x y H2 λz H3=>∃k,z=.bl k /\
 (if k=true then tc σ H3 λw' H4=>r' y w' H4 Q else Q (.bl false) H3)
theorem sJ{op op':CmpOp}{r r':R2}(ho:OpR X (aO op) r)(ho':OpR X (aO op') r')(ha:PE X a ta)(hb:PE X b tb)(hc:PE X c tc)
  (hm:lastMarks [op,op'] [b,c]=false:=by with_unfolding_all rfl):PE X (.Compare a [op,op'] [b,c] pos) (jA r r' ta tb tc):=by
 intro pins s σ H Q I h;refine Compare_chain (thn (ha pins s σ H _ I h) λv s1 ⟨x,H1,I1,r1,q1⟩=>chain_link (thn (hb pins s1 σ H1 _ I1 q1) λu s2 ⟨y,H2,I2,r2,q2⟩=>
  thn (ho pins s2 σ H2 x y v u _ I2 r1 r2 q2) λd s3 ⟨z,H3,I3,r3,k,e,q3⟩=>?_)) hm
 subst e;cases r3;refine ba ?_;cases k with
 |false=>exact ite_ff ⟨.bl false,H3,I3,rfl,q3⟩
 |true=>exact ite_tt (chain_last (thn (hc pins s3 σ H3 _ I3 q3) λw' s4 ⟨z',H4,I4,r4,q4⟩=>ho' pins s4 σ H4 y z' u w' Q I4 r2 r4 q4))
theorem oK{op op':CmpOp}{r r':R2}(ho:OpR X (aO op) r)(ho':OpR X (aO op') r')(ha:PE X a ta)(hb:PE X b tb)(hc:PE X c tc)
  (hm:lastMarks [op,op'] [b,c]=false:=by with_unfolding_all rfl):PT X (.Compare a [op,op'] [b,c] pos) (iy (jA r r' ta tb tc)):=by
 intro pins s σ H Q I h;refine isTrue_chain (thn (ha pins s σ H _ I h) λv s1 ⟨x,H1,I1,r1,q1⟩=>test_link (thn (hb pins s1 σ H1 _ I1 q1) λu s2 ⟨y,H2,I2,r2,q2⟩=>
  thn (ho pins s2 σ H2 x y v u _ I2 r1 r2 q2) λd s3 ⟨z,H3,I3,r3,k,e,q3⟩=>?_)) hm
 subst e;cases r3;refine ba ?_;cases k with
 |false=>
  obtain⟨k',e',q'⟩:=q3;cases e';exact ite_ff ⟨H3,I3,q'⟩
 |true=>
  refine ite_tt (test_last (thn (hc pins s3 σ H3 _ I3 q3) λw' s4 ⟨z',H4,I4,r4,q4⟩=>thn (ho' pins s4 σ H4 y z' u w' _ I4 r2 r4 q4) λd' s5 ⟨z2,H5,I5,r5,k2,e2,q5⟩=>?_));subst e2;cases r5;exact ba ⟨H5,I5,q5⟩
noncomputable def gQ(K:aq)(x:V)(H:Hp)(k:Bool):Prop:=
 match x with
 | .non=>k=false
 | .bl b=>k=b
 | .int i=>k=(i != 0)
 | .str y=>y.length<=aF/\k=((y.length:Int) != 0)
 | .byt y=>y.size<=aF/\k=((y.size:Int) != 0)
 | .ref p=>(∃xs,SqL K H p xs/\k = !xs.isEmpty)\/(∃xs,SqT K H p xs/\k = !xs.isEmpty)\/∃kvs,H p=some (.dK kvs)/\k = !kvs.isEmpty
 |_=>False
theorem vJ{κ:Type}{kvs:List (κ×V)}{vs:List (κ×ae)}(r:KV kvs vs):(!vs.isEmpty) = !kvs.isEmpty:=by
 cases r<;>rfl
theorem jb{xs:List V}{its:List ae}(r:Vals xs its):(!its.toArray.isEmpty) = !xs.isEmpty:=by
 cases r<;>simp
theorem fo:(aF:Nat)<2^63:=by rw[bh];decide
theorem ny:my X (λx H Q=>∃k,gQ X.K x H k/\Q k H):=by
 intro pins s σ H x v Q I rx h;obtain⟨k,e,q⟩:=h;have hl:=fo;have hs:aF=16777216:=bh;cases x with
 |non=>
  cases rx;have e':k=false:=e;subst e';exact truthy_none ⟨H,I,q⟩
 |bl b=>
  cases rx;have e':k=b:=e;subst e';exact ba ⟨H,I,q⟩
 |int i=>
  obtain⟨t,rfl⟩:=rx;have e':k=(i != 0):=e;subst e';exact PySem.P.truthy_int ⟨H,I,q⟩
 |str y=>
  obtain⟨t,rfl⟩:=rx;obtain⟨hy,e'⟩:y.length<=aF/\k=((y.length:Int) != 0):=e;subst e';exact PySem.P.truthy_str (by lia) ⟨H,I.tok _,q⟩
 |byt y=>
  obtain⟨t,rfl⟩:=rx;obtain⟨hy,e'⟩:y.size<=aF/\k=((y.size:Int) != 0):=e;subst e';exact PySem.W.truthy_bytes (by lia) ⟨H,I.tok _,q⟩
 |ref p=>
  cases rx;have e':(∃xs,SqL X.K H p xs/\k = !xs.isEmpty)\/(∃xs,SqT X.K H p xs/\k = !xs.isEmpty)\/∃kvs,H p=some (.dK kvs)/\k = !kvs.isEmpty:=e;rcases e' with ⟨xs,hx,e'⟩|⟨xs,hx,e'⟩|⟨kvs,hx,e'⟩
  ·subst e';obtain⟨its,r,pl,hz⟩:=I.list hx;have hlen:=r.length;exact wpAny_truthy_list pl.isList (by simp only[aN];lia) ⟨H,I.tok _,by rw[jb r];exact q⟩
  ·subst e';obtain⟨its,r,pl,hz⟩:=I.tuple hx;have hlen:=r.length;exact truthy_tuple pl (by simp only[aN];lia) ⟨H,I.tok _,by rw[jb r];exact q⟩
  ·subst e';obtain⟨hz,hS,vs,r,m⟩:kvs.length<=aF/\(p==sysModules)=false/\∃vs,KV kvs vs/\s.heap.DictOf (iC X.prog X.w) p vs:=I.hok p _ hx;have hlen:kvs.length=vs.length:=Paired.length r;exact wpAny_truthy_dict hS m (by lia) ⟨H,I.tok _,by rw[vJ r];exact q⟩
 |_=>exact(show False from e).elim
theorem vt(ha:PE X a ta)(he:∀whole,isTrue a X.env whole=(do let v <-whole;standAt a.pos;holding [v] (truthy v))) :
  PT X a (λσ H Q=>ta σ H λx H'=>∃k,gQ X.K x H' k/\Q k H'):=by
 intro pins s σ H Q I h;exact isTrue_plain (thn (ha pins s σ H _ I h) λv s1 ⟨x,H1,I1,r1,q1⟩=>ny pins s1 σ H1 x v Q I1 r1 q1) (he _)
theorem uS:OpR X (binaryOp .Add) (λx y H Q=>∃i j,x=.str i/\y=.str j/\i.length+j.length<=aF/\Q (.str (i++j)) H):=by
 intro pins s σ H x y v u Q I rx ry h;obtain⟨i,j,rfl,rfl,hz,q⟩:=h;obtain⟨t,rfl⟩:=rx;obtain⟨t',rfl⟩:=ry;exact add_str (λt' tk=>⟨.str (i++j),H,I.tok _,⟨_,rfl⟩,q⟩) hz
theorem vals1{x:V}{us:List ae}(r:Vals [x] us):∃u,us=[u]/\RelV x u:=by
 cases r with
 |cons r1 r2=>cases r2;exact⟨_,rfl,r1⟩
theorem vals2{x y:V}{us:List ae}(r:Vals [x,y] us):∃u w',us=[u,w']/\RelV x u/\RelV y w':=by
 cases r with
 |cons r1 r2=>
  cases r2 with
  |cons r3 r4=>cases r4;exact⟨_,_,rfl,r1,r3⟩
theorem tH(hc:X.calm=true):zh X (.builtin "max") (λxs H Q=>∃i j,xs=[.int i,.int j]/\Q (.int (if j>i then j else i)) H):=by
 intro pins s σ H xs us Q I r h;obtain⟨i,j,rfl,q⟩:=h;obtain⟨u,w',rfl,⟨t,rfl⟩,⟨t',rfl⟩⟩:=vals2 r;refine max_two_ints (I.ok.hd hc) λh' tk k=>⟨_,H,I.kept k,?_,q⟩
 by_cases hj:j>i
 ·rw[if_pos hj,if_pos hj];exact⟨_,rfl⟩
 ·rw[if_neg hj,if_neg hj];exact⟨_,rfl⟩
theorem sA(hc:X.calm=true):zh X (.builtin "min") (λxs H Q=>∃i j,xs=[.int i,.int j]/\Q (.int (if j<i then j else i)) H):=by
 intro pins s σ H xs us Q I r h;obtain⟨i,j,rfl,q⟩:=h;obtain⟨u,w',rfl,⟨t,rfl⟩,⟨t',rfl⟩⟩:=vals2 r;refine min_two_ints (I.ok.hd hc) λh' tk k=>⟨_,H,I.kept k,?_,q⟩
 by_cases hj:j<i
 ·rw[if_pos hj,if_pos hj];exact⟨_,rfl⟩
 ·rw[if_neg hj,if_neg hj];exact⟨_,rfl⟩
theorem pN:zh X (.type "str") (λxs H Q=>∃i,xs=[.int i]/\i.natAbs.log2<1920/\Q (.str (toString i)) H):=by
 intro pins s σ H xs us Q I r h;obtain⟨i,rfl,hz,q⟩:=h;obtain⟨u,rfl,t,rfl⟩:=vals1 r;exact PySem.P.str_of_int hz ⟨.str _,H,I.tok _,⟨_,rfl⟩,q⟩
end
structure h9(h:Heap)(x dx C:Addr)(mA:Str->Option ae):Prop where
 obj:h.get? x=some (PySem.W.instObj C dx)
 ns:h.Ns1 dx mA
 ne:dx≠x
theorem q_{h:Heap}{dx:Addr}{mA:Str->Option ae}(n:h.Ns1 dx mA):∃od,h.get? dx=some od/\∀name,PySem.W.lookIn name od=some (mA name):=by
 obtain⟨o,es,ep,ho,hd,hk,_,hm⟩:=n;refine⟨o,ho,λname=>?_⟩;have e:=hm name;unfold nsFind findBy at e;rw[<-Array.find?_toList]at e;unfold PySem.W.lookIn;rw[hd];dsimp only;split
 ·rename_i y q
  rw[q]at e;exact congrArg some e
 ·rename_i q
  rw[q]at e;have a:es.toList.any (·.refKey)=false:=by
   rw[List.any_eq_false];intro y hy;obtain⟨z,t,hkey⟩:=hk y (Array.mem_toList_iff.mp hy);simp[DictEntry.refKey,hkey]
  have a':¬ es.toList.any (·.refKey)=true:=by rw[a];exact bT
  rw[if_neg a'];exact congrArg some e
theorem h9.look{h:Heap}{x dx C:Addr}{mA:Str->Option ae}(I:h9 h x dx C mA):∃od,PySem.W.InstAt h x (PySem.W.instObj C dx) C (some od)/\∀name,PySem.W.lookIn name od=some (mA name):=
 let ⟨od,ho,hl⟩:=q_ I.ns
 ⟨od,⟨I.obj,rfl,rfl,ho⟩,hl⟩
section
variable{prog:aw}{w:ar}{A:av}{E:ae->af->Prop}{s:af}{K:aq}{x dx C f:Addr}{mA:Str->Option ae}{name:Str}{v:ae}
end
section
variable{P:aw}{w:ar}{H H':Hp}{h h':Heap}{a C dx:Addr}{fs fs':List (Str×V)}
theorem wL(hok:HOk P w H h)(e:H a=some (.ins C dx fs)):∃mA,h9 h a dx C mA/\(∀f,hZ (fs.lookup f) (mA f))/\PySem.Within mA (fs.map (·.1))/\fs.length<=1000/\H dx=some (.own a):=by
 obtain⟨d,z,ne,ob,mA,n,r,q⟩:=(show zy P w H h a (.ins C dx fs)from hok a _ e)
 exact⟨mA,⟨ob,n,ne⟩,r,q,z,d⟩
end
structure Cls(K:aq)(C:Addr):Prop where
 pg:PySem.W.plainGet K C Str.empty=true
 hd:PySem.W.hasDictIn K C=true
 po:PySem.W.plainOver K C=true
 sa:PySem.W.findIn K (.ref C) "__setattr__" = some (some (.builtin "object.__setattr__"))
theorem Cls.get{K:aq}{C:Addr}(c:Cls K C)(f:Str):PySem.W.plainGet K C f=true:=c.pg
section
variable{X:Cx}{pins:List (Addr×Obj)}{σ:St}{H:Hp}{s:af}{a C dx:Addr}{fs:List (Str×V)}{f:Str}{v:V}{A:av}{E:ae->af->Prop}
end
section
variable{X:Cx}{o e value:Expr}{f:Str}{pos pos' tpos:Pos}{ta tv:TE}
end
section
variable{X:Cx}{pins:List (Addr×Obj)}{σ:St}{H:Hp}{s:af}{A:av}{E:ae->af->Prop}{Q:ae->af->Prop}{c:ae}{b:Bool}
inductive b3(K:aq)(H:Hp):V->ae->Prop where
 |non:b3 K H .non (.type "NoneType")
 |bl (x:Bool):b3 K H (.bl x) (.type "bool")
 |int (i:Int):b3 K H (.int i) (.type "int")
 |str (x:Str):b3 K H (.str x) (.type "str")
 |flt (x:UInt64):b3 K H (.flt x) (.type "float")
 |lst {a:Addr}{xs:List V} (e:H a=some (.lst xs)):b3 K H (.ref a) (.type "list")
 |frz {a:Addr}{o:Obj}{xs:List V} (e:H a=some (.frz o (.lst xs))):b3 K H (.ref a) (.type "list")
 |tup {a:Addr}{xs:List V} (e:H a=some (.tup xs)):b3 K H (.ref a) (.type "tuple")
 |dK {a:Addr}{kvs:List (Key×V)} (e:H a=some (.dK kvs)):b3 K H (.ref a) (.type "dict")
 |dT {a:Addr}{kvs:List (List Key×V)} (e:H a=some (.dT kvs)):b3 K H (.ref a) (.type "dict")
 |ins {a C dx:Addr}{fs:List (Str×V)} (e:H a=some (.ins C dx fs)) (cl:Cls K C) (ha:PySem.W.findIn K (.ref C) "__class__" = some (some (.builtin "object.__class__")))
   (hn:PySem.W.specialIn K (.builtin "object.__class__") "__get__" = some (some (.builtin "getset_descriptor.__get__"))) (htk:PySem.W.takesIn K (.builtin "object.__class__")=some true)
   (hm:PySem.W.mroIn K C (.type "object")=some true):b3 K H (.ref a) (.ref C)
theorem el{x:V}{u t:ae}(I:Inv X pins σ H s)(rx:RelV x u)(ty:b3 X.K H x t)(e:aW X.K t c=some b)(h:∀tk,Q (.bool b) {s with toks:=tk}) :
  ak (ao X.prog X.w) A (call (.builtin "isinstance") [u,c]) Q E s:=by
 cases ty with
 |non=>cases (show u=ae.none from rx);exact bf PySem.W.kitx_none I.kIn True.intro e (λz=>nomatch z) h
 |bl y=>cases (show u=a7 y from rx);exact bf PySem.W.kitx_bool I.kIn True.intro e (λz=>nomatch z) h
 |int i=>obtain⟨t,q⟩:=(show ∃t,u=ae.int i t from rx);cases q;exact bf PySem.W.kitx_int I.kIn True.intro e (λz=>nomatch z) h
 |str y=>obtain⟨t,q⟩:=(show ∃t,u=ae.str y t from rx);cases q;exact bf PySem.W.kitx_str I.kIn True.intro e (λz=>nomatch z) h
 |flt y=>obtain⟨t,q⟩:=(show ∃t,u=ae.float y t from rx);cases q;exact bf PySem.W.kitx_float I.kIn True.intro e (λz=>nomatch z) h
 | @lst a xs ea=>
  cases (show u=ae.ref a from rx);obtain⟨_,_,n,_,h1⟩:=(show zy X.prog X.w H s.heap a (.lst xs)from I.hok a _ ea)
  exact bf PySem.W.kitx_list I.kIn ⟨_,h1,rfl⟩ e (λz=>nomatch z) h
 | @frz a ob xs ea=>
  cases (show u=ae.ref a from rx);obtain⟨_,_,_,n,_,h1⟩:=(show zy X.prog X.w H s.heap a (.frz ob (.lst xs))from I.hok a _ ea)
  exact bf PySem.W.kitx_list I.kIn ⟨_,h1,rfl⟩ e (λz=>nomatch z) h
 | @tup a xs ea=>
  cases (show u=ae.ref a from rx);obtain⟨_,_,_,p⟩:=(show zy X.prog X.w H s.heap a (.tup xs)from I.hok a _ ea)
  obtain⟨o,h1,h2,_⟩:=p;exact bf PySem.W.kitx_tuple I.kIn ⟨o,h1,h2⟩ e (λz=>nomatch z) h
 | @dK a kvs ea=>
  cases (show u=ae.ref a from rx);obtain⟨_,_,vs,_,p⟩:=(show zy X.prog X.w H s.heap a (.dK kvs)from I.hok a _ ea)
  obtain⟨o,es,ep,h1,h2,_⟩:=p;exact bf PySem.W.kitx_dict I.kIn ⟨o,h1,h2.1⟩ e (λz=>nomatch z) h
 | @dT a kvs ea=>
  cases (show u=ae.ref a from rx);obtain⟨_,_,xs,_,o,es,ep,h1,h2,_⟩:=(show zy X.prog X.w H s.heap a (.dT kvs)from I.hok a _ ea)
  exact bf PySem.W.kitx_dict I.kIn ⟨o,h1,h2.1⟩ e (λz=>nomatch z) h
 | @ins a C dx fs ea cl ha hn htk hm=>
  cases (show u=ae.ref a from rx);obtain⟨mA,O,_⟩:=wL I.hok ea;obtain⟨od,J,_⟩:=O.look;exact bf (PySem.W.kitx_own (cl.get _) cl.hd ha hn htk hm) I.kIn J e (λz=>nomatch z) h
end
structure bC(k:Nat)(A:av):Prop where
 hd:A.handled=none
 dp:A.depth+3 * k+5<recursionLimit
 un:A.units+16 * k+200<cLine
theorem bC.deeper{k:Nat}{A:av}(r:bC (k+1) A)(env:Env):bC k (A.deeper env):=
 ⟨r.hd,by have:=r.dp;show A.depth+1+3 * k+5<_;lia,by have:=r.un;show A.units+3+16 * k+200<_;lia⟩
theorem bC.depth{k:Nat}{A:av}(r:bC k A):A.depth<recursionLimit:=by have:=r.dp;lia
theorem bC.units{k:Nat}{A:av}(r:bC k A):A.units+64<cLine:=by have:=r.un;lia
noncomputable def gq:TA:=λ_ H Q=>Q [] H
noncomputable def eM(ta:TE)(tr:TA):TA:=λσ H Q=>ta σ H λx H1=>tr σ H1 λxs H2=>Q (x::xs) H2
section
variable{X:Cx}{e:Expr}{es:List Expr}{te:TE}{t:TA}{pos:Pos}
theorem b5:PA X [] gq:=λ_ _ _ _ H Q I h=>Calls.spliced_nil ⟨[],H,I,.nil,h⟩
theorem zw(ha:PE X e te)(hr:PA X es t)(hs:aK (e::es) X.env=(false,eval e X.env)::aK es X.env:=by rfl):PA X (e::es) (eM te t):=by
 intro pos pins s σ H Q I h;rw[hs];show ak _ _ (spliced ((false,eval e X.env)::backTo pos (aK es X.env))) _ _ s;refine Calls.spliced_cons (thn (ha pins s σ H _ I h) λu s1 ⟨x,H1,I1,r1,q1⟩=>?_);exact thn (hr pos pins s1 σ H1 _ I1 q1) λus s2 ⟨xs,H2,I2,r2,q2⟩=>⟨x::xs,H2,I2,.cons r1 r2,q2⟩
noncomputable def oN(t:TA):TE:=λσ H Q=>t σ H λxs H1=>xs.length<=aF/\∀p,H1 p=none->Q (.ref p) (upd H1 p (.tup xs))
noncomputable def ve(t:TA):TE:=λσ H Q=>t σ H λxs H1=>xs.length<=aF/\∀p,H1 p=none->Q (.ref p) (upd H1 p (.lst xs))
theorem pI{x1}(h:PA X es t):PE X (.Tuple es x1 pos) (oN t):=by
 intro pins s σ H Q I hq;refine wpAny_Tuple_spliced (thn (h pos pins s σ H _ I hq) λus s1 ⟨xs,H1,I1,r,z,q⟩=>⟨by rw[<-r.length];exact z,?_⟩);have hf:H1 s1.heap.objs.size=none:=I1.hok.fresh (aC _);refine⟨.ref s1.heap.objs.size,upd H1 s1.heap.objs.size (.tup xs),I1.laid (t':=s1.toks) (λb u e=>Heap.get?_push_of_some _ e) (aC _) ?_,rfl,q _ hf⟩;exact⟨z,us,r,⟨_,Heap.get?_push_size _ rfl,rfl,_,rfl⟩⟩
theorem vV(h:PA X es t):PE X (.List es pos) (ve t):=by
 intro pins s σ H Q I hq;refine wpAny_List_spliced (thn (h pos pins s σ H _ I hq) λus s1 ⟨xs,H1,I1,r,z,q⟩=>⟨by rw[<-r.length];exact z,?_⟩);have hf:H1 s1.heap.objs.size=none:=I1.hok.fresh (aC _);refine⟨.ref s1.heap.objs.size,upd H1 s1.heap.objs.size (.lst xs),I1.laid (t':=s1.toks) (λb u e=>Heap.get?_push_of_some _ e) (aC _) ?_,rfl,q _ hf⟩;exact⟨z,us,0,r,Heap.get?_push_size _ rfl⟩
end
abbrev Sp:=List V->Hp->VK->XK->Prop
abbrev CXT:=List Env->Hp->af->XK->ae->af->Prop
structure dF(P:aw)(w:ar)(K:aq)(mg:Str->Option ae)(base:Heap)(A:av)(outer:List Env)(s:af)(H:Hp):Prop where
 frames:A.frames=some outer
 mod:Mod K mg base
 bs:∀b o,base.get? b=some o->s.heap.get? b=some o/\H b=none
 bsz:base.objs.size<=s.heap.objs.size
 funs:s.heap.FunFrames base outer
 frf:∀b∈frs outer,H b=none
 hok:HOk P w H s.heap
 bare:AllBare s.gens
noncomputable def CE(outer:List Env)(P:aw)(w:ar)(H:Hp)(s:af)(Q:VK)(u:ae)(s':af):Prop:=
 ∃v H',s'.os=s.os/\AllBare s'.gens/\Un (frs outer) [] H H' s.heap s'.heap/\HOk P w H' s'.heap/\RelV v u/\Q v H'
noncomputable def CR(CX:CXT)(outer:List Env)(P:aw)(w:ar)(H:Hp)(s:af)(Q:VK)(E:XK)(r:Result)(s':af):Prop:=
 match r with
 | .ok (.ret u)=>CE outer P w H s Q u s'
 | .ok _=>False
 | .error e=>CX outer H s E e s'
structure dj(P:aw)(w:ar)(K:aq)(mg:Str->Option ae)(base:Heap)(CX:CXT)(k:Nat)(f:Addr)(fd:a8)(ps:List Str)(sp:Sp):Prop where
 len:∀vs H Q E,sp vs H Q E->vs.length=ps.length
 run:∀(A:av) (outer:List Env) (s:af) (H:Hp) (args:Args) (us:List ae) (vs:List V) (Q:VK) (E:XK),bC k A->dF P w K mg base A outer s H->BindsTo s fd args (ps.zip us)->Vals vs us->sp vs H Q E ->
  codeAny (ao P w) A (.call (.ref f) args) (CR CX outer P w H s Q E) s
section
variable{X:Cx}{pins:List (Addr×Obj)}{σ:St}{H:Hp}{s s':af}
theorem Inv.env0(I:Inv X pins σ H s):dF X.prog X.w X.K X.mg X.base X.A X.stack s H:=
 ⟨I.ok.frames,I.ok.mod,I.bs,aS I.ok.bsz I.sz,I.stack,I.stkFree,I.hok,I.bare⟩
theorem Inv.after{Q:VK}{u:ae}(I:Inv X pins σ H s)(h:CE X.stack X.prog X.w H s Q u s'):EP X pins σ Q u s':=by
 obtain⟨v,H',os,bare,un,hok,r,q⟩:=h;obtain⟨hh,g,d,t,os'⟩:=s';obtain rfl:os'=s.os:=os;exact⟨v,H',I.call (h':=hh) (g':=g) (d':=d) (t':=t) (ch:=[]) un hok bare (λb z=>absurd z (by simp)),r,q⟩
end
noncomputable def gG(sp:Sp)(dvs:List V)(E:XK)(t:TA):TE:=λσ H Q=>t σ H λvs H1=>sp (vs++dvs) H1 Q E
noncomputable def Binds(K:aq)(fd:a8)(ps:List Str)(ds:List ae):Prop:=
 ∀(s:af) (us:List ae),K.In s.heap->(us++ds).length=ps.length->BindsTo s fd ⟨us,[]⟩ (ps.zip (us++ds))
theorem Binds.all{K:aq}{fd:a8}{ps:List Str}(h:∀us:List ae,us.length=ps.length->bindArgs fd ⟨us,[]⟩=pure (ps.zip us)):Binds K fd ps []:=λs us _ hl=>by
 rw[List.append_nil]at hl ⊢;exact .of_eq (h us hl)
noncomputable def Passes(CX:CXT)(X:Cx)(E:XK):Prop:=∀(pins:List (Addr×Obj)) (σ:St) (H:Hp) (s:af) (e:ae) (s':af),Inv X pins σ H s->CX X.stack H s E e s'->X.xe e s'
section
variable{X:Cx}{CX:CXT}{k:Nat}{f C:Addr}{fd:a8}{ps:List Str}{sp:Sp}{dvs:List V}{ds:List ae}{E:XK}{x m:Str}{p pos apos:Pos}{e o:Expr}{es:List Expr}{ta:TE}{t:TA}
theorem xn{pins:List (Addr×Obj)}{σ:St}{H:Hp}{s:af}{Q:VK}{us:List ae}{vs:List V}(F:dj X.prog X.w X.K X.mg X.base CX k f fd ps sp)(hr:bC k X.A)(hb:Binds X.K fd ps ds)(hd:Vals dvs ds)(hx:Passes CX X E)
  (I:Inv X pins σ H s) (r:Vals vs us) (h:sp (vs++dvs) H Q E):ak (ao X.prog X.w) X.A (call (.ref f) us) (EP X pins σ Q) X.xe s:=by
 have r2:Vals (vs++dvs) (us++ds):=r.append hd;have hl:(us++ds).length=ps.length:=by rw[<-r2.length];exact F.len _ _ _ _ h
 refine wpAny_call (codeAny_mono (F.run X.A X.stack s H ⟨us,[]⟩ (us++ds) (vs++dvs) Q E hr I.env0 (hb s us I.kIn hl) r2 h) λr s' hq=>?_);cases r with
 |error e=>exact hx pins σ H s e s' I hq
 |ok fl=>
  cases fl with
  |ret u=>exact I.after hq
  |next=>exact aJ hq
  |brk=>exact aJ hq
  |cont=>exact aJ hq
theorem rX(F:dj X.prog X.w X.K X.mg X.base CX k f fd ps sp)(hr:bC k X.A)(hg:Gl X x)(hm:X.mg x=some (.ref f))(hk:bH X.K (.ref f)=true)(hb:Binds X.K fd ps ds)(hd:Vals dvs ds)(hx:Passes CX X E)
  (ha:PA X (e::es) t) (hdb:(x==("__debug__" : Str))=false:=by decide) (he:aK (e::es) X.env=(false,eval e X.env)::aK es X.env:=by rfl) (hpl:(backTo pos (aK es X.env)).any (·.1)=false:=by rfl) :
  PE X (.Call (.Name x p) (e::es) [] pos) (gG sp dvs E t):=by
 intro pins s σ H Q I h;refine wpAny_Call_Name_kw (eB I hg hm ?_ hdb);refine PySem.W.callWith_K (h₀:=X.base) I.ok.mod.kin hk (thn (ha pos pins s σ H _ I h) λus s1 ⟨vs,H1,I1,r,q⟩=>⟨I1.kIn,?_⟩) he hpl;exact xn F hr hb hd hx I1 r q
end
section
variable{X:Cx}{CX:CXT}{k:Nat}{f C:Addr}{fd:a8}{ps ks:List Str}{sp:Sp}{E:XK}{x m:Str}{p pos apos kpos:Pos}{e o:Expr}{es:List Expr}{kws:List Keyword}{te ta:TE}{t tk:TA}{nm:Option Str}
variable{g:List ae->List ae->List ae}{gV:List V->List V->List V}
end
structure dE(N P:List Str)(sc:aH):Prop where
 kind:sc.kind=.function
 co:sc.isCoroutine=false
 gen:sc.isGenerator=false
 nd:N.Nodup
 pre:N.take P.length=P
 par:∀x∈P,sc.names.lookup x=some .local\/sc.names.lookup x=some .cell
 nofree:∀y∈sc.names,y.2≠.free
theorem i_{kindOf:Str->Option aG}{x:Str}:∀{binds:List (Str×ae)}{m:Str->Option ae},(∀v,(x,v)∉binds)->bindL kindOf binds m x=m x
 | [],_,_=>rfl
 | (n,v)::r,m,h=>by
  unfold bindL;rw[i_ λw hw=>h w (aL _ hw)];split
  ·have:x≠n:=by rintro rfl;exact h v aM
   simp[this]
  ·rfl
theorem l_{kindOf:Str->Option aG}{x:Str}:∀{binds:List (Str×ae)}{m:Str->Option ae},(∀v,(x,v)∉binds)->bindC kindOf binds m x=m x
 | [],_,_=>rfl
 | (n,v)::r,m,h=>by
  unfold bindC;rw[l_ λw hw=>h w (aL _ hw)];split
  ·rfl
  ·have:x≠n:=by rintro rfl;exact h v aM
   simp[this]
theorem kL{kindOf:Str->Option aG}{x:Str}{v:ae}:∀{P:List Str}{vs:List ae}{i:Nat}{m:Str->Option ae},P.Nodup->P[i]? = some x->vs[i]? = some v->kindOf x=some .local ->
  bindL kindOf (P.zip vs) m x=some v
 | [],_,_,_,_,h,_,_=>by simp at h
 |_::_,[],_,_,_,_,h,_=>by simp at h
 |p::P,w::vs,0,m,nd,h1,h2,hk=>by
  simp at h1 h2;subst h1;subst h2;show bindL kindOf ((p,w)::P.zip vs) m p=_;unfold bindL;rw[i_ λv hv=>(List.nodup_cons.mp nd).1 (List.of_mem_zip hv).1,if_pos hk];simp
 |p::P,w::vs,i+1,m,nd,h1,h2,hk=>by
  show bindL kindOf ((p,w)::P.zip vs) m x=_;unfold bindL;exact kL (i:=i) (List.nodup_cons.mp nd).2 (by simpa using h1) (by simpa using h2) hk
theorem jn{kindOf:Str->Option aG}{x:Str}{v:ae}:∀{P:List Str}{vs:List ae}{i:Nat}{m:Str->Option ae},P.Nodup->P[i]? = some x->vs[i]? = some v->kindOf x≠some .local ->
  bindC kindOf (P.zip vs) m x=some v
 | [],_,_,_,_,h,_,_=>by simp at h
 |_::_,[],_,_,_,_,h,_=>by simp at h
 |p::P,w::vs,0,m,nd,h1,h2,hk=>by
  simp at h1 h2;subst h1;subst h2;show bindC kindOf ((p,w)::P.zip vs) m p=_;unfold bindC;rw[l_ λv hv=>(List.nodup_cons.mp nd).1 (List.of_mem_zip hv).1,if_neg hk];simp
 |p::P,w::vs,i+1,m,nd,h1,h2,hk=>by
  show bindC kindOf ((p,w)::P.zip vs) m x=_;unfold bindC;exact jn (i:=i) (List.nodup_cons.mp nd).2 (by simpa using h1) (by simpa using h2) hk
noncomputable def start(N:List Str)(vs:List V):St:=vs.map some++bt (N.length-vs.length) none
noncomputable def cf(CX:CXT)(P:aw)(w:ar)(K:aq)(mg:Str->Option ae)(base:Heap)(N:List Str)(qual:Str)(scope:aH)(f:Addr)(cd:ae)(A:av)(outer:List Env)(s:af)(H:Hp)(E:XK):Cx where
 prog:=P
 w:=w
 K:=K
 mg:=mg
 base:=base
 A:=A.deeper (envOfC qual scope s.heap.objs.size f cd)
 N:=N
 s₀:=s
 H₀:=H
 env:=envOfC qual scope s.heap.objs.size f cd
 outer:=outer
 stack:=envOfC qual scope s.heap.objs.size f cd::outer
 ex:=[]
 calm:=true
 fn:=λ_=>true
 pn:=[]
 xe:=λe s'=>ak (ao P w) (A.deeper (envOfC qual scope s.heap.objs.size f cd)) (leaving (envOfC qual scope s.heap.objs.size f cd) e) (λ_ s''=>CX outer H s E e s'') (λe' s''=>CX outer H s E e' s'') s'
theorem fG{sc:aH}{n:Nat}{x:Str}(h:sc.names.lookup x=some .cell):∃c,(aP n sc.names []).lookup x=some c:=by
 have q:=PySem.W.cellsFrom_some sc.names n [] (.inl h);exact Option.isSome_iff_exists.mp q
theorem jQ{CX:CXT}{P:aw}{w:ar}{K:aq}{mg:Str->Option ae}{base:Heap}{N ps:List Str}{qual:Str}{scope:aH}{f:Addr}{cd:ae}{A:av}{outer:List Env}{s s1:af}{H:Hp}{E:XK}{us:List ae}{vs:List V}
  (S:dE N ps scope) (hd:A.handled=none) (e0:dF P w K mg base A outer s H) (hl:vs.length=ps.length) (r:Vals vs us)
  (x:InCallC s s.heap.objs.size (bindL (envOfC qual scope s.heap.objs.size f cd).kindOf (ps.zip us) λ_=>none) (aP (s.heap.objs.size+1) scope.names []) (bindC (envOfC qual scope s.heap.objs.size f cd).kindOf (ps.zip us) λ_=>none) s1) :
  Inv (cf CX P w K mg base N qual scope f cd A outer s H E) [] (start N vs) H s1:=by
 have hpl:ps.length<=N.length:=by have:=congrArg List.length S.pre;rw[List.length_take]at this;lia
 obtain⟨h1,tk,rfl,hk⟩:=x.done;have noA:∀b:Addr,b∉(cf CX P w K mg base N qual scope f cd A outer s H E).ex:=λb z=>absurd (show b∈([]:List Addr)from z) (by simp)
 refine⟨⟨e0.mod,S.kind,rfl,rfl,aC _,λy z c h1 h2=>?_,λy hy=>?_,λy c _ h=>?_,λ_=>hd,av.frames_deeper e0.frames,.inr ⟨rfl,rfl⟩,λb z=>absurd z (noA b),e0.bs,e0.bsz,λb _ _=>noA b,λb z=>absurd z (noA b),e0.funs,e0.frf⟩,
  rfl,e0.bare,Un.kept hk,⟨_,x.toInCall.ns,λi y v h1 h2 h3=>?_⟩,λy c h=>⟨_,x.cell y c h⟩,e0.hok.fresh (aC _),λy c h=>?_,λp hp=>absurd (show p∈([]:List (Addr×Obj))from hp) (by simp),e0.hok.kept hk,?_⟩
 ·exact name_of_addr x.apart (bG h1) (bG h2)
 ·have hy:scope.names.lookup y=some .cell\/scope.names.lookup y=some .free:=hy;rcases hy with hy|hy
  ·exact fG hy
  ·exact absurd rfl (S.nofree _ (bG hy))
 ·exact Nat.le_of_lt (x.above y c (bG h))
 ·have hi:i<vs.length:=by
   unfold start at h2;by_cases hi:i<vs.length
   ·exact hi
   ·rw[List.getElem?_append_right (by simpa using hi)]at h2;rw[List.getElem?_replicate]at h2;split at h2<;>cases h2
  have ha:vs[i]? = some v:=by
   unfold start at h2;rw[List.getElem?_append_left (by simpa using hi),List.getElem?_map]at h2;cases e:vs[i]? with
   |none=>rw[e]at h2;cases h2
   |some a=>rw[e]at h2;cases h2;rfl
  obtain⟨u,hu,rv⟩:=r.get ha;have hp:ps[i]? = some y:=by
   rw[<-S.pre,List.getElem?_take_of_lt (by lia)];exact h1
  have ndP:ps.Nodup:=by rw[<-S.pre];exact S.nd.sublist (List.take_sublist _ _)
  refine⟨u,rv,?_⟩;rcases S.par y (List.mem_of_getElem? hp)with k|k
  ·exact .inl ⟨k,kL ndP hp hu k⟩
  ·obtain⟨c,e⟩:=fG (n:=s.heap.objs.size+1) k;refine .inr ⟨.inl k,c,e,?_⟩;have q:=x.cell y c e;rw[jn ndP hp hu (by show scope.names.lookup y≠_;rw[k];decide)]at q;exact q
 ·exact e0.hok.fresh (Nat.le_of_lt (x.above y c (bG h)))
 ·unfold start;show _=N.length;rw[List.length_append,bK,List.length_replicate];lia
theorem ug{CX:CXT}{P:aw}{w:ar}{K:aq}{mg:Str->Option ae}{base:Heap}{k:Nat}{f:Addr}{name qual:Str}{params:Arguments}{body:List Stmt}{scope:aH}{dV kV doc pm cdv ct oc:ae}{an od:Option Addr}
  {osl:Array (Option ae)}{N ps:List Str}{sp:Sp} (lk:K.lookup f=some ⟨oc,od,.func (bw name qual params body scope dV kV doc pm an cdv ct),osl⟩) (hcd:PySem.W.codeIn K cdv qual=true) (S:dE N ps scope)
  (len:∀vs H Q E,sp vs H Q E->vs.length=ps.length)
  (hbody:∀(A:av) (outer:List Env) (s:af) (H:Hp) (vs:List V) (Q:VK) (E:XK),bC k (A.deeper (envOfC qual scope s.heap.objs.size f cdv))->sp vs H Q E ->
   ∃t,PSs (cf CX P w K mg base N qual scope f cdv A outer s H E) body t/\t {nx:=λ_ H'=>Q .non H',rt:=Q} (start N vs) H) :
  dj P w K mg base CX (k+1) f (bw name qual params body scope dV kV doc pm an cdv ct) ps sp:=by
 refine⟨len,λA outer s H args us vs Q E hr e0 hb r hsp=>?_⟩;have hl:=len _ _ _ _ hsp;have KX:K.In s.heap:=e0.mod.kin.keeps λb o e=>(e0.bs b o e).1
 have lim:s.heap.NoLimit:=e0.mod.nolimit.keeps λb o e=>(e0.bs b o e).1
 have hkind:∀y∈ps.zip us,scope.names.lookup y.1=some .local\/(scope.names.lookup y.1=some .cell/\((aP (s.heap.objs.size+1) scope.names []).lookup y.1).isSome=true):=λ⟨n,v⟩ hy=>by
  rcases S.par n (List.of_mem_zip hy).1 with q|q
  ·exact .inl q
  ·exact .inr ⟨q,PySem.W.cellsFrom_some _ _ _ (.inl q)⟩
 refine codeAny_call_function hr.depth (KX _ _ lk) rfl S.co S.gen rfl (PySem.W.codeRec_of KX hcd) (hb _ _ _ _ ?_);refine wpAny_newFunctionEnv_cells S.kind hkind λenv he s1 x=>?_
 subst he;refine⟨lim.keeps x.toInCall.keep,codeAny_func ?_⟩;obtain⟨t,ht,hq⟩:=hbody A outer s H vs Q E (hr.deeper _) hsp;have I:Inv (cf CX P w K mg base N qual scope f cdv A outer s H E) [] (start N vs) H s1:=jQ S hr.hd e0 hl r x;refine bq (ht [] s1 (start N vs) H _ I hq) (λfl s' hs=>?_) λe s' hs=>hs
 have fin:∀{σ':St}{H':Hp}{v:V}{u:ae},Inv (cf CX P w K mg base N qual scope f cdv A outer s H E) [] σ' H' s'->RelV v u->Q v H'->CE outer P w H s Q u s':=
  λ{σ' H' v u} J rv q=>⟨v,H',J.os,J.bare,J.base,J.hok,rv,q⟩
 cases fl with
 |ret u=>
  obtain⟨v,σ',H',J,rv,q⟩:=hs;exact fin J rv q
 |next=>
  obtain⟨σ',H',J,q⟩:=hs;exact fin (v:=V.non) (u:=ae.none) J rfl q
 |brk=>
  obtain⟨_,_,_,q⟩:=hs;exact aJ q
 |cont=>
  obtain⟨_,_,_,q⟩:=hs;exact aJ q
section
variable{X:Cx}{x:Str}{p pos:Pos}{e:Expr}{es:List Expr}{t:TA}{id T:String}{r:List V->Hp->VK->Prop}
noncomputable def tCB(r:List V->Hp->VK->Prop)(t:TA):TE:=λσ H Q=>t σ H λvs H1=>r vs H1 Q
theorem lY(hc:zh X (.builtin id) r)(hg:Gl X x)(hm:X.mg x=none)(hv:bg x=some (.builtin id))(ha:PA X (e::es) t)(hn:x≠"__name__":=by decide)(hdb:(x==("__debug__" : Str))=false:=by decide)
  (he:aK (e::es) X.env=(false,eval e X.env)::aK es X.env:=by rfl) (hpl:(backTo pos (aK es X.env)).any (·.1)=false:=by rfl):PE X (.Call (.Name x p) (e::es) [] pos) (tCB r t):=by
 intro pins s σ H Q I h;refine wpAny_Call_Name_kw (et I hg hm hv ?_ hn hdb);exact PyProof.Rows.callWith_builtin1 (thn (ha pos pins s σ H _ I h) λus s1 ⟨vs,H1,I1,r1,q1⟩=>hc pins s1 σ H1 vs us Q I1 r1 q1) he hpl
theorem eX(hc:zh X (.type T) r)(hg:Gl X x)(hm:X.mg x=none)(hv:bg x=some (.type T))(ha:PA X (e::es) t)(hn:x≠"__name__":=by decide)(hdb:(x==("__debug__" : Str))=false:=by decide)
  (he:aK (e::es) X.env=(false,eval e X.env)::aK es X.env:=by rfl) (hpl:(backTo pos (aK es X.env)).any (·.1)=false:=by rfl):PE X (.Call (.Name x p) (e::es) [] pos) (tCB r t):=by
 intro pins s σ H Q I h;refine wpAny_Call_Name_kw (et I hg hm hv ?_ hn hdb);exact PyProof.Rows.callWith_type1 (thn (ha pos pins s σ H _ I h) λus s1 ⟨vs,H1,I1,r1,q1⟩=>hc pins s1 σ H1 vs us Q I1 r1 q1) he hpl
end
end L2
namespace HT
open PySem PyProof.Rows
noncomputable def lexLt:List Int->List Int->Bool
 | [],[]=>false
 | [],_::_=>true
 |_::_,[]=>false
 |x::xs,y::ys=>if x=y then lexLt xs ys else decide (x<y)
theorem rQ(x y:Int)(xs ys:List Int):lexLt (x::xs) (y::ys)=if x=y then lexLt xs ys else decide (x<y):=rfl
theorem um:lexLt [] []=false:=rfl
theorem mY(y:Int)(ys:List Int):lexLt [] (y::ys)=true:=rfl
theorem tD(x:Int)(xs:List Int):lexLt (x::xs) []=false:=rfl
theorem uD(A:av)(s:af)(a:Int)(t:Tok)(c:Int)(u:Tok):∃e,SeqAt.EqAt A s (.int a t) (.int c u) e/\(e=true↔a=c):=
 ⟨(a==c),SeqAt.EqAt.int_int a t c u,by simp⟩
theorem mK(A:av)(s:af)(a:Int)(t:Tok)(c:Int)(u:Tok)(prog:aw)(w:ar)(E:ae->af->Prop)(Q:ae->af->Prop)(h:Q (.bool (decide (a<c))) s) :
  ak (ao prog w) A (richCompare .Lt (.int a t) (.int c u)) Q E s:=
 (PyProof.Rows.lt_int h:ak (ao prog w) A (aO .Lt (.int a t) (.int c u)) Q E s)
section
open PySem.SeqAt
open PySem.AutoSeq1 (wpAny_loadPart')
open PySem.MeetsSeq PySem.MeetsSeq2 PySem.MeetsSeq3
theorem ua(l b:Addr)(items items2:Array ae)(n n2:Nat)(dd dd2:Option Addr)(sl sl2:Array (Option ae))(ns ms:List Int)(hi:IntsAre items.toList ns)(hj:IntsAre items2.toList ms) :
  Meets (Builtin.«tuple.__lt__» ⟨[.ref l,.ref b],[]⟩)
   (λ_ R s=>s.heap.get? l=some {cls:=.type "tuple",dict:=dd,data:=.seq items n,slots:=sl}/\s.heap.get? b=some {cls:=.type "tuple",dict:=dd2,data:=.seq items2 n2,slots:=sl2} /\
    R (.ok (.ret (.bool (lexLt ns ms)))) s):=
 .of_wp λprog w A R s h=>by
  obtain⟨hp,g,d,tk,os⟩:=s;obtain⟨hl,hb,h⟩:=h;have f2:=AutoSeq1.sub_tuple_tuple;have z1:items.size=ns.length:=by rw[<-hi.length];simp
  have z2:items2.size=ms.length:=by rw[<-hj.length];simp
  wp_walk using wpAny_loadPart' hl,wpAny_loadPart' hb,wpAny_forIn_list _ (λrest b s'=>b.1=none/\s'=⟨hp,g,d,tk,os⟩/\∃(vs ws:List ae) (ns' ms':List Int),rest=vs.zip ws /\
   IntsAre vs ns'/\IntsAre ws ms'/\ns'.length+items2.size=ms'.length+items.size/\R (.ok (.ret (.bool (lexLt ns' ms')))) ⟨hp,g,d,tk,os⟩) _
  case turn=>
   rintro⟨y,x⟩ rest b s' ⟨hb',rfl,vs,ws,ns',ms',hz,hvi,hwi,hlen,hR⟩;cases hvi with
   |nil=>rw[List.zip_nil_left]at hz;cases hz
   |cons a t hvi'=>
    cases hwi with
    |nil=>rw[List.zip_nil_right]at hz;cases hz
    |cons c u hwi'=>
     rw[List.zip_cons_cons]at hz;injection hz with hyx hrest
     injection hyx with hy hx
     subst hy hx;rw[rQ]at hR;simp only[List.length_cons]at hlen;obtain⟨e,he,hiff⟩:=uD A.in1 ⟨hp,g,d,tk,os⟩ a t c u;refine au (he prog w _ _ ?_);cases e with
     |true=>
      rw[if_pos (hiff.mp rfl)]at hR
      wp_walk
      exact⟨rfl,rfl,_,_,_,_,hrest,hvi',hwi',by lia,hR⟩
     |false=>
      rw[if_neg (λq=>absurd (hiff.mpr q) bT)]at hR;have hri:=mK A.in1 ⟨hp,g,d,tk,os⟩ a t c u prog w
      wp_walk using hri
      exact⟨_,rfl,by simpa using hR⟩
  case fin=>
   rintro⟨b1,b2⟩ s' ⟨hb',rfl,vs,ws,ns',ms',hz,hvi,hwi,hlen,hR⟩;simp only at hb';subst hb';have hv:lexLt ns' ms'=decide (items.size<items2.size):=by
    cases hvi with
    |nil=>
     cases hwi with
     |nil=>
      simp only[List.length_nil]at hlen;rw[um];exact(decide_eq_false (by lia)).symm
     |cons c u hw=>
      simp only[List.length_nil,List.length_cons]at hlen;rw[mY];exact(decide_eq_true (by lia)).symm
    |cons a t hv=>
     cases hwi with
     |nil=>
      simp only[List.length_nil,List.length_cons]at hlen;rw[tD];exact(decide_eq_false (by lia)).symm
     |cons c u hw=>
      rw[List.zip_cons_cons]at hz;cases hz
   rw[hv]at hR
   wp_walk
   exact⟨_,rfl,by simpa[Builtin.Tuple.tupleCompareSizes]using hR⟩
  case h=>
   exact⟨rfl,rfl,items.toList,items2.toList,ns,ms,rfl,hi,hj,by lia,h⟩
end
section
variable{prog:aw}{w:ar}{A:av}{E:ae->af->Prop}{s:af}
theorem o5{l b:Addr}{items items2:Array ae}{ns ms:List Int}{Q:ae->af->Prop}(hl:IsTup s.heap l items)(hb:IsTup s.heap b items2)(hi:IntsAre items.toList ns)(hj:IntsAre items2.toList ms)
  (hu:A.units<cLine) (h:Q (.bool (lexLt ns ms)) s):ak (ao prog w) A (aO .Lt (.ref l) (.ref b)) Q E s:=by
 obtain⟨⟨cls,dd,data,sl⟩,ho,hc,n,hd⟩:=id hl;obtain⟨⟨cls2,dd2,data2,sl2⟩,ho2,hc2,n2,hd2⟩:=id hb;simp only at hc hd hc2 hd2;subst hc hd hc2 hd2;exact richCompare_meets_room (op:=.Lt) ⟨_,ho,rfl⟩ ⟨_,ho2,rfl⟩ PySem.F.slot_tuple_lt PySem.F.entry_tuple_lt (PySem.F.args_tuple_lt_2 _ _) (ua l b items items2 n n2 dd dd2 sl sl2 ns ms hi hj)
  ⟨ho,ho2,show a7 (lexLt ns ms)≠ae.notImplemented/\Q (.bool (lexLt ns ms)) s from ⟨(λx=>nomatch x),h⟩⟩ hu
theorem oa{t b:Addr}{vs ws:List ae}{Q:ae->af->Prop}(ht:IsTup s.heap t vs.toArray)(hb:IsTup s.heap b ws.toArray)(hv:vs≠[])
  (h1:ws=[]->Q (.ref t) s) (h2:ws≠[]->Q (.ref s.heap.objs.size) {s with heap:=s.heap.push {cls:=.type "tuple",data:=.seq (vs++ws).toArray}})
  (hsz:vs.length+ws.length<=aF):ak (ao prog w) A (binaryOp .Add (.ref t) (.ref b)) Q E s:=by
 obtain⟨⟨cls,dd,data,sl⟩,ho,hc,n,hd⟩:=id ht;obtain⟨⟨cls2,dd2,data2,sl2⟩,ho2,hc2,n2,hd2⟩:=id hb;simp only at hc hd hc2 hd2;subst hc hd hc2 hd2;have e:vs.toArray++ws.toArray=(vs++ws).toArray:=by simp
 by_cases hw:ws=[]
 ·exact concat_meets ⟨_,ho,rfl⟩ ⟨_,ho2,rfl⟩ noFill_tuple_add seq_tuple_add PySem.F.slot_tuple_add PySem.F.entry_tuple_add (PySem.F.args_tuple_add_2 _ _)
   (tuple_addW1 t b vs.toArray ws.toArray n n2 dd dd2 sl sl2 (by simpa using hv) (by simp[hw])) ⟨ho,ho2,h1 hw⟩
 ·refine concat_meets ⟨_,ho,rfl⟩ ⟨_,ho2,rfl⟩ noFill_tuple_add seq_tuple_add PySem.F.slot_tuple_add PySem.F.entry_tuple_add (PySem.F.args_tuple_add_2 _ _)
   (tuple_addW2 t b vs.toArray ws.toArray n n2 dd dd2 sl sl2 (by simpa using hv) (by simpa using hw) (by rw[aN,aN];exact hsz)) ⟨ho,ho2,?_⟩
  rw[e];exact h2 hw
noncomputable def sIx(n d:Nat):Option Int->Nat
 |none=>d
 |some v=>if v<0 then (v+(n:Int)).toNat else min v.toNat n
theorem nz(n d:Nat)(hd:d<=n)(o:Option Int):sIx n d o<=n:=by
 cases o with
 |none=>exact hd
 |some v=>
  show (if v<0 then (v+(n:Int)).toNat else min v.toNat n)<=n;by_cases hv:v<0
  ·rw[if_pos hv];lia
  ·rw[if_neg hv];exact Nat.min_le_right _ _
theorem jo(v:Int)(n d:Nat):(if v<0 then max (v+(n:Int)) 0 else min v (n:Int))=((sIx n d (some v):Nat):Int):=by
 show (if v<0 then max (v+(n:Int)) 0 else min v (n:Int))=(((if v<0 then (v+(n:Int)).toNat else min v.toNat n):Nat):Int)
 by_cases hv:v<0
 ·simp only[if_pos hv];lia
 ·simp only[if_neg hv];lia
theorem sH(lo hi:Option Int)(n:Nat):Builtin.Slice.sliceAdjust lo hi 1 (n:Int)=(((sIx n 0 lo:Nat):Int),((sIx n n hi:Nat):Int)):=by
 have h1:¬ ((1:Int)<0):=by lia
 unfold Builtin.Slice.sliceAdjust;simp only[h1,if_false];refine Prod.ext ?_ ?_
 ·cases lo with
  |none=>rfl
  |some v=>exact jo v n 0
 ·cases hi with
  |none=>rfl
  |some v=>exact jo v n n
theorem pL(i j:Nat):Builtin.Slice.slicePlaces (i:Int) (j:Int) 1=j-i:=by
 unfold Builtin.Slice.slicePlaces;have h1:(1:Int)>0:=by lia
 simp only[h1,if_true,Int.ediv_one];split<;>lia
theorem lu{v:ae}{o:Option Int}{Q:Option Int->af->Prop}(p:IsPart v o)(h:Q o s):ak (ao prog w) A (Builtin.Slice.slicePartIndex v) Q E s:=by
 cases p with
 |none=>exact slicePart_none h
 |int i t=>exact slicePart_int h
theorem ju{sl:Addr}{vl vu:ae}{lo hi:Option Int}{n:Nat}{Q:Int×Int×Nat->af->Prop}(hs:s.heap.IsSliceOf sl vl vu .none)(pl:IsPart vl lo)(pu:IsPart vu hi)
  (h:Q (((sIx n 0 lo:Nat):Int),1,sIx n n hi-sIx n 0 lo) s):ak (ao prog w) A (Builtin.Slice.sliceApplied (.ref sl) (pure (n:Int))) Q E s:=by
 obtain⟨os,hos,hcs,hds⟩:=id hs;unfold Builtin.Slice.sliceApplied Builtin.Slice.sliceFields;refine au (au (wpAny_field hos hds (x:=vl) rfl (au (wpAny_field hos hds (x:=vu) rfl (au (wpAny_field hos hds (x:=.none) rfl (aD ?_)))))));refine au (slicePart_none ?_);show ak _ _ (if ((1:Int)==0)=true then _ else _) _ _ s;rw[if_neg (by decide)];refine au (lu pl (au (lu pu (au (aD ?_)))));show ak _ _ (match Builtin.Slice.sliceAdjust lo hi 1 (n:Int)with|(lo,hi)=>pure (lo,(1:Int),Builtin.Slice.slicePlaces lo hi 1)) _ _ s;rw[sH lo hi n];show ak _ _ (pure (((sIx n 0 lo:Nat):Int),(1:Int),Builtin.Slice.slicePlaces ((sIx n 0 lo:Nat):Int) ((sIx n n hi:Nat):Int) 1)) _ _ s;rw[pL];exact aD h
theorem oX(xs:Array ae)(i k:Nat):((aZ k).filterMap λ(m:Nat)=>xs[((i:Int)+(m:Int) * 1).toNat]?).toArray=((xs.toList.drop i).take k).toArray:=by
 have e:(λ(m:Nat)=>xs[((i:Int)+(m:Int) * 1).toNat]?)=λm=>xs[i+m]?:=by
  funext m;have:((i:Int)+(m:Int) * 1).toNat=i+m:=by lia
  rw[this]
 rw[e];have:=pick_run xs i k;rw[List.filterMap_map]at this;have e2:((λx=>xs[x]?)∘λx=>i+x)=λm=>xs[i+m]?:=rfl
 rw[e2]at this;rw[this]
theorem mV{t sl:Addr}{items:Array ae}{vl vu:ae}{lo hi:Option Int}{Q:ae->af->Prop}(ht:IsTup s.heap t items)(hs:s.heap.IsSliceOf sl vl vu .none)(pl:IsPart vl lo)(pu:IsPart vu hi)
  (hw:¬ (sIx items.size 0 lo=0/\sIx items.size items.size hi=items.size))
  (h:Q (.ref s.heap.objs.size) {s with heap:=s.heap.push {cls:=.type "tuple",data:=.seq ((items.toList.drop (sIx items.size 0 lo)).take (sIx items.size items.size hi-sIx items.size 0 lo)).toArray}})
  (hsz:items.size<=aF):ak (ao prog w) A (getItem (.ref t) (.ref sl)) Q E s:=by
 have htake:sizeOk (.seq ((items.toList.drop (sIx items.size 0 lo)).take (sIx items.size items.size hi-sIx items.size 0 lo)).toArray):=by
  show ((items.toList.drop (sIx items.size 0 lo)).take (sIx items.size items.size hi-sIx items.size 0 lo)).toArray.size<=aF;rw[aN,List.length_take,List.length_drop,Array.length_toList];lia
 have hj:sIx items.size items.size hi<=items.size:=nz _ _ (aC _) hi;obtain⟨os,hos,hcs,hds⟩:=id hs;have hTs:s.TypeIs (.ref sl) "slice":=⟨os,hos,hcs⟩
 unfold getItem
 try with_reducible refine wpAny_holding ?_
 first|refine au (aD ?_)|skip
 refine au (wpAny_sequenceKey ht.typeIs (by decide) ?_);refine au (wpAny_callSpecial?_slot (name:=ag "__getitem__") ht.typeIs PyProof.Rows.slot_tuple_getitem
  (wpAny_call_entry PyProof.Rows.slot_tuple_getitem ht.typeIs entry_tuple_getitem ?_ (args_tuple_getitem _ _)))
 show ak _ _ (Builtin.Tuple.tupleItemsOf (.ref t)>>=_) _ _ s;refine au (tupleItemsOf_ ht ?_);refine au (wpAny_typeOf hTs ?_);rw[if_pos (by decide)];refine au (ju hs pl pu ?_);have hno:¬ ((((sIx items.size 0 lo:Nat):Int)==0&&(1:Int)==1&&(sIx items.size items.size hi-sIx items.size 0 lo)==items.size)=true):=by
  intro q;rw[aB,aB]at q;have q1:((sIx items.size 0 lo:Nat):Int)=0:=eq_of_beq q.1.1;have q2:sIx items.size items.size hi-sIx items.size 0 lo=items.size:=eq_of_beq q.2;exact hw ⟨by lia,by lia⟩
 show ak _ _ (if (((sIx items.size 0 lo:Nat):Int)==0&&(1:Int)==1&&(sIx items.size items.size hi-sIx items.size 0 lo)==items.size)=true then _ else _) _ _ s;rw[if_neg hno,oX]
 first
  |exact au (m:=cy _) (b9 (aD ⟨_,rfl,aD h⟩) htake)
  |exact au (m:=cy _) (b9 (au (aD (aD ⟨_,rfl,aD h⟩))) htake)
  |exact au (au (m:=cy _) (b9 (aD (aD ⟨_,rfl,aD h⟩)) htake))
  |exact au (au (m:=cy _) (b9 (aD ⟨_,rfl,aD h⟩) htake))
end
end HT
namespace L2
open PySem PySem.Spec PyProof.Rows
abbrev TO:=St->Hp->(Option Int->Hp->Prop)->Prop
noncomputable def PO(X:Cx)(e:Option Expr)(t:TO):Prop:=
 ∀(pins:List (Addr×Obj)) (s:af) (σ:St) (H:Hp) (Q:Option Int->Hp->Prop),Inv X pins σ H s->t σ H Q ->
  ak (ao X.prog X.w) X.A (evalPart e X.env) (λu s'=>∃o H',Inv X pins σ H' s'/\IsPart u o/\Q o H') X.xe s
noncomputable def sI:TO:=λ_ H Q=>Q none H
noncomputable def oP(t:TE):TO:=λσ H Q=>t σ H λx H1=>∃i,x=.int i/\Q (some i) H1
theorem intsAre_of{ns:List Int}:∀{us:List ae},Vals (ns.map V.int) us->IntsAre us ns:=by
 induction ns with
 |nil=>intro us r;rw[List.map_nil]at r;cases r;exact .nil
 |cons n ns ih=>
  intro us r;rw[aY]at r;cases r with
  |cons r1 r2=>
   obtain⟨t,e⟩:=r1;subst e;exact .cons n t (ih r2)
section
variable{X:Cx}{e:Expr}{te:TE}{lo hi:Option Expr}{tl th:TO}{pos p2:Pos}
theorem pR:PO X none sI:=by
 intro pins s σ H Q I h;rw[evalPart_none];exact aD ⟨none,H,I,.none,h⟩
theorem w8(h:PE X e te):PO X (some e) (oP te):=by
 intro pins s σ H Q I hw;rw[evalPart_some];refine thn (h pins s σ H _ I hw) λu s1 ⟨x,H1,I1,r1,q1⟩=>?_
 obtain⟨i,rfl,q⟩:=q1;obtain⟨t,rfl⟩:=r1;exact⟨some i,H1,I1,.int i t,q⟩
noncomputable def SlR(X:Cx)(r:V->Option Int->Option Int->Hp->VK->Prop):Prop:=
 ∀(pins:List (Addr×Obj)) (s:af) (σ:St) (H:Hp) (x:V) (v vl vu:ae) (lo hi:Option Int) (sl:Addr) (Q:VK),Inv X pins σ H s->RelV x v->s.heap.IsSliceOf sl vl vu .none->IsPart vl lo->IsPart vu hi->r x lo hi H Q ->
  ∃T id,typeLookup (.type T) "__getitem__" = pure (some (.builtin id))/\s.TypeIs v T/\ak (ao X.prog X.w) X.A (getItem v (.ref sl)) (EP X pins σ Q) X.xe s
noncomputable def tSl(r:V->Option Int->Option Int->Hp->VK->Prop)(te:TE)(tl th:TO):TE:=λσ H Q=>te σ H λx H1=>tl σ H1 λl H2=>th σ H2 λu H3=>r x l u H3 Q
theorem mJ{r:V->Option Int->Option Int->Hp->VK->Prop}(hr:SlR X r)(he:PE X e te)(hl:PO X lo tl)(hu:PO X hi th):PE X (.Subscript e (.Slice lo hi none p2) pos) (tSl r te tl th):=by
 intro pins s σ H Q I h;refine Subscript_ (thn (he pins s σ H _ I h) λv s1 ⟨x,H1,I1,r1,q1⟩=>?_);refine wpAny_Slice (thn (hl pins s1 σ H1 _ I1 q1) λvl s2 ⟨l,H2,I2,pl,q2⟩=>thn (hu pins s2 σ H2 _ I2 q2) λvu s3 ⟨u,H3,I3,pu,q3⟩=>?_);rw[evalPart_none];refine aD ?_;have I4:Inv X pins σ H3 {s3 with heap:=s3.heap.push {cls:=.type "slice",data:=.fields #[vl,vu,.none]}}:=I3.kept (t':=s3.toks) λb ob q=>Heap.get?_push_of_some _ q
 obtain⟨T,id,hT,ht,hg⟩:=hr pins {s3 with heap:=s3.heap.push {cls:=.type "slice",data:=.fields #[vl,vu,.none]}} σ H3 x v vl vu l u s3.heap.objs.size Q I4 r1 (Heap.IsSliceOf.new ..) pl pu q3;show ak (ao X.prog X.w) X.A (subscriptTail e (.Slice lo hi none p2) v (.ref s3.heap.objs.size)) (EP X pins σ Q) X.xe {s3 with heap:=s3.heap.push {cls:=.type "slice",data:=.fields #[vl,vu,.none]}};exact tail_any (ops:=[.ref s3.heap.objs.size,v]) ht hT hg (by with_unfolding_all rfl)
noncomputable def dz(xs:List V)(lo hi:Option Int):List V:=(xs.drop (HT.sIx xs.length 0 lo)).take (HT.sIx xs.length xs.length hi-HT.sIx xs.length 0 lo)
theorem jl(xs:List V)(lo hi:Option Int):(dz xs lo hi).length<=xs.length:=by
 unfold dz;rw[List.length_take,List.length_drop];lia
noncomputable def om(K:aq):V->Option Int->Option Int->Hp->VK->Prop:=λx lo hi H Q=>∃a xs,x=.ref a/\SqT K H a xs /\
 ¬ (HT.sIx xs.length 0 lo=0/\HT.sIx xs.length xs.length hi=xs.length)/\∀p,H p=none->Q (.ref p) (upd H p (.tup (dz xs lo hi)))
theorem pq:SlR X (om X.K):=by
 intro pins s σ H x v vl vu lo hi sl Q I rx hs pl pu h;obtain⟨a,xs,rfl,hx,hw,q⟩:=h;cases rx;obtain⟨its,r,ht,hz⟩:=I.tuple hx;have hlen:its.toArray.size=xs.length:=by rw[aN];exact r.length.symm
 refine⟨"tuple",_,PyProof.Rows.slot_tuple_getitem.lookup,ht.typeIs,?_⟩;refine HT.mV ht hs pl pu (by rw[hlen];exact hw) ?_ (by rw[hlen];exact hz);rw[hlen];refine⟨.ref s.heap.objs.size,_,I.laid (t':=s.toks) (o:=.tup (dz xs lo hi)) (λb ob q=>Heap.get?_push_of_some _ q) (aC _) ?_,rfl,q _ (I.hok.fresh (aC _))⟩;exact⟨aS (jl xs lo hi) hz,_,(r.drop (HT.sIx xs.length 0 lo)).take (HT.sIx xs.length xs.length hi-HT.sIx xs.length 0 lo),IsTup.new _ _⟩
noncomputable def rD(K:aq):R2:=λx y H Q=>∃a b ns ms,x=.ref a/\y=.ref b/\SqT K H a (ns.map V.int)/\SqT K H b (ms.map V.int)/\Q (.bl (HT.lexLt ns ms)) H
theorem xr(hu:X.A.units<cLine):OpR X (aO .Lt) (rD X.K):=by
 intro pins s σ H x y v u Q I rx ry h;obtain⟨a,b,ns,ms,rfl,rfl,ha,hb,q⟩:=h;cases rx;cases ry;obtain⟨its,r1,p1,_⟩:=I.tuple ha;obtain⟨its2,r2,p2,_⟩:=I.tuple hb;have i1:IntsAre its.toArray.toList ns:=intsAre_of r1;have i2:IntsAre its2.toArray.toList ms:=intsAre_of r2;exact HT.o5 p1 p2 i1 i2 hu ⟨.bl (HT.lexLt ns ms),H,I,rfl,q⟩
noncomputable def v9(K:aq):R2:=λx y H Q=>∃a b xs ys,x=.ref a/\y=.ref b/\SqT K H a xs/\SqT K H b ys/\xs≠[]/\xs.length+ys.length<=aF /\
 (ys=[]->Q (.ref a) H)/\(ys≠[]->∀p,H p=none->Q (.ref p) (upd H p (.tup (xs++ys))))
theorem Vals.nil_iff{xs:List V}{us:List ae}(r:Vals xs us):us=[]↔xs=[]:=by
 cases r with
 |nil=>simp
 |cons _ _=>simp
theorem xi:OpR X (binaryOp .Add) (v9 X.K):=by
 intro pins s σ H x y v u Q I rx ry h;obtain⟨a,b,xs,ys,rfl,rfl,ha,hb,hx,hz,q1,q2⟩:=h;cases rx;cases ry;obtain⟨its,r1,p1,_⟩:=I.tuple ha;obtain⟨its2,r2,p2,_⟩:=I.tuple hb;refine HT.oa p1 p2 (λz=>hx (r1.nil_iff.mp z)) (λz=>⟨.ref a,H,I,rfl,q1 (r2.nil_iff.mp z)⟩) (λz=>?_) (by rw[<-r1.length,<-r2.length];exact hz);refine⟨.ref s.heap.objs.size,_,I.laid (t':=s.toks) (o:=.tup (xs++ys)) (λb ob q=>Heap.get?_push_of_some _ q) (aC _) ?_,rfl,q2 (λw=>z (r2.nil_iff.mpr w)) _ (I.hok.fresh (aC _))⟩;exact⟨by rw[List.length_append];exact hz,_,r1.append r2,IsTup.new _ _⟩
end
noncomputable def ixN(n:Nat)(i:Int):Option Nat:=if 0<=i then (if i<n then some i.toNat else none)else if -(n:Int)<=i then some (i+n).toNat else none
noncomputable def atI{α:Type}(xs:List α)(i:Int):Option α:=(ixN xs.length i).bind λj=>xs[j]?
theorem jI{n:Nat}{i:Int}{j:Nat}(h:ixN n i=some j):seqIndex? i n=some j/\j<n/\-(n:Int)<=i/\i<n:=by
 unfold ixN at h;by_cases h0:0<=i
 ·rw[if_pos h0]at h;by_cases h1:i<n
  ·rw[if_pos h1]at h;have e:i.toNat=j:=br h;exact⟨by rw[seqIndex_of h0 h1,e],by lia,by lia,h1⟩
  ·rw[if_neg h1]at h;cases h
 ·rw[if_neg h0]at h;by_cases h1:-(n:Int)<=i
  ·rw[if_pos h1]at h;have e:(i+n).toNat=j:=br h;exact⟨by rw[seqIndex_neg (by lia) h1,e],by lia,h1,by lia⟩
  ·rw[if_neg h1]at h;cases h
theorem lS{α:Type}{xs:List α}{i:Int}{v:α}(h:atI xs i=some v):∃j,seqIndex? i xs.length=some j/\xs[j]? = some v/\j<xs.length/\-(xs.length:Int)<=i/\i<xs.length:=by
 unfold atI at h;cases e:ixN xs.length i with
 |none=>rw[e]at h;cases h
 |some j=>
  rw[e]at h;obtain⟨h1,h2,h3,h4⟩:=jI e;exact⟨j,h1,h,h2,h3,h4⟩
noncomputable def jU(b:Expr):Prop:=∀o i,subscripted b false o i=operate [o,i] (getItem o i)
noncomputable def IxR(X:Cx)(r:R2):Prop:=
 ∀(value slice:Expr) (pins:List (Addr×Obj)) (s:af) (σ:St) (H:Hp) (x y:V) (v u:ae) (Q:VK),Inv X pins σ H s->RelV x v->RelV y u->r x y H Q ->
  subscripted slice false v u=operate [v,u] (getItem v u)->ak (ao X.prog X.w) X.A (subscriptTail value slice v u) (EP X pins σ Q) X.xe s
noncomputable def MtR(X:Cx)(id:String)(r:V->List V->Hp->VK->Prop):Prop:=
 ∀(pins:List (Addr×Obj)) (s:af) (σ:St) (H:Hp) (x:V) (xs:List V) (v:ae) (us:List ae) (Q:VK),Inv X pins σ H s->RelV x v->Vals xs us->r x xs H Q ->
  ak (ao X.prog X.w) X.A (call (.builtin id) (v::us)) (EP X pins σ Q) X.xe s
section
variable{X:Cx}{a b:Expr}{ta tb:TE}{pos:Pos}
theorem IxR.or{r r':R2}(h:IxR X r)(h':IxR X r'):IxR X (λx y H Q=>r x y H Q\/r' x y H Q):=by
 intro value slice pins s σ H x y v u Q I rx ry q hs;rcases q with q|q
 ·exact h value slice pins s σ H x y v u Q I rx ry q hs
 ·exact h' value slice pins s σ H x y v u Q I rx ry q hs
theorem ue{r:R2}(hr:IxR X r)(ha:PE X a ta)(hb:PE X b tb)(hs:jU b):PE X (.Subscript a b pos) (tOp r ta tb):=by
 intro pins s σ H Q I h;exact Subscript_ (iD ha hb I h λv u s2 x y H2 I2 rx ry q=>hr a b pins s2 σ H2 x y v u Q I2 rx ry q (hs _ _))
noncomputable def lR(K:aq):R2:=λx y H Q=>∃p xs i v,x=.ref p/\y=.int i/\SqL K H p xs/\atI xs i=some v/\Q v H
noncomputable def jX(K:aq):R2:=λx y H Q=>∃p xs i v,x=.ref p/\y=.int i/\SqT K H p xs/\atI xs i=some v/\Q v H
theorem uM:IxR X (lR X.K):=by
 intro value slice pins s σ H x y v u Q I rx ry h hs;obtain⟨p,xs,i,z,rfl,rfl,hq,he,q⟩:=h;cases rx;obtain⟨t,rfl⟩:=ry;obtain⟨its,r,pl,hz⟩:=I.list hq;obtain⟨j,h1,h2,h3,h4,h5⟩:=lS he;obtain⟨w,ew,rw'⟩:=r.get h2;have hl:=r.length;have hn:=fo;have fin:EP X pins σ Q w s:=⟨z,H,I,rw',q⟩
 by_cases h0:0<=i
 ·have hj:i.toNat=j:=by
   rw[seqIndex_of h0 h5]at h1;exact br h1
  exact item_listR pl.isList h0 (by lia) (by rw[hj];simpa using ew) fin hs
 ·have hj:(i+(its.toArray.size:Int)).toNat=j:=by
   rw[seqIndex_neg (by lia) h4]at h1;rw[aN,<-hl];exact br h1
  exact subscriptTail_builtinR (x:=w) pl.isList.typeIs slot_list_getitem.lookup
   (wpAny_getItem_list_neg (Q:=λr s'=>r=w/\EP X pins σ Q r s') pl.isList (by lia) (by rw[aN]<;>lia) (by lia) (by rw[hj];simpa using ew) ⟨rfl,fin⟩) hs
theorem uj:IxR X (jX X.K):=by
 intro value slice pins s σ H x y v u Q I rx ry h hs;obtain⟨p,xs,i,z,rfl,rfl,hq,he,q⟩:=h;cases rx;obtain⟨t,rfl⟩:=ry;obtain⟨its,r,pl,hz⟩:=I.tuple hq;obtain⟨j,h1,h2,h3,h4,h5⟩:=lS he;obtain⟨w,ew,rw'⟩:=r.get h2;have hl:=r.length;have hn:=fo;have fin:EP X pins σ Q w s:=⟨z,H,I,rw',q⟩
 exact subscriptTail_builtinR (x:=w) pl.typeIs slot_tuple_getitem.lookup
  (getItem_tuple (j:=j) (Q:=λr s'=>r=w/\EP X pins σ Q r s') pl (by lia) (by lia) (by rw[aN,<-hl];exact h1) (by simpa using ew) ⟨rfl,fin⟩) hs
theorem oA(its:List ae)(n j:Nat)(u:ae):Obj.mapSeq (·.setIfInBounds j u) {cls:=.type "list",data:=.seq its.toArray n}={cls:=.type "list",data:=.seq (its.set j u).toArray n}:=by
 simp[Obj.mapSeq]
theorem Inv.lst{pins:List (Addr×Obj)}{σ:St}{H:Hp}{s:af}{p:Addr}{xs:List V}(I:Inv X pins σ H s)(h:H p=some (.lst xs)) :
  ∃(its:List ae) (n:Nat),Vals xs its/\s.heap.get? p=some {cls:=.type "list",data:=.seq its.toArray n}/\xs.length<=sizeLine:=by
 obtain⟨z,its,n,r,e⟩:=I.hok p _ h;exact⟨its,n,r,e,z⟩
theorem Inv.lstUpd{pins:List (Addr×Obj)}{σ:St}{H:Hp}{s:af}{p:Addr}{xs ys:List V}{its its':List ae}{n n':Nat}{f:Obj->Obj}(I:Inv X pins σ H s)(h:H p=some (.lst xs))
  (ho:s.heap.get? p=some {cls:=.type "list",data:=.seq its.toArray n}) (hf:f {cls:=.type "list",data:=.seq its.toArray n}={cls:=.type "list",data:=.seq its'.toArray n'}) (r:Vals ys its') (hz:ys.length<=aF) (t:Nat) :
  Inv X pins σ (upd H p (.lst ys)) {s with heap:=s.heap.update p f,toks:=t}:=by
 have e:(s.heap.update p f).get? p=some {cls:=.type "list",data:=.seq its'.toArray n'}:=by
  rw[Heap.get?_update_self f ho (by rw[hf]<;>rfl),hf]
 refine I.write (x:=p) (e:=p) (by rw[h];trivial) (.inl rfl) (λb u hb q=>(Heap.get?_update_other _ _ (Ne.symm hb)).trans q) ⟨_,e⟩ ?_;exact⟨hz,its',n',r,e⟩
noncomputable def l9:V->V->V->Hp->(Hp->Prop)->Prop:=λo i v H Q=>∃p xs k j,o=.ref p/\i=.int k/\H p=some (.lst xs)/\ixN xs.length k=some j/\Q (upd H p (.lst (xs.set j v)))
theorem set_list:kK X l9:=by
 intro pins s σ H o i v ov iv u Q I ro ri rv h;obtain⟨p,xs,k,j,rfl,rfl,hp,hj,q⟩:=h;cases ro;obtain⟨t,rfl⟩:=ri;obtain⟨its,n,r,ho,hz⟩:=I.lst hp;obtain⟨h1,h2,h3,h4⟩:=jI hj;have hl:=r.length;have hn:=fo;have I':Inv X pins σ (upd H p (.lst (xs.set j v))) {s with heap:=s.heap.update p (Obj.mapSeq (·.setIfInBounds j u))}:=
  I.lstUpd hp ho (oA its n j u) (r.set rv j) (by rw[List.length_set];exact hz) s.toks
 by_cases h0:0<=k
 ·have hk:k.toNat=j:=by
   rw[seqIndex_of h0 h4]at h1;exact br h1
  exact PySem.W.ki_setAt ho h0 (by lia) (by rw[aN,<-hl];exact h4) (by rw[hk];exact⟨_,I',q⟩)
 ·have hk:(k+(its.toArray.size:Int)).toNat=j:=by
   rw[seqIndex_neg (by lia) h3]at h1;rw[aN,<-hl];exact br h1
  exact PySem.W.ki_setBack ho (by lia) (by rw[aN,<-hl];exact h3) (by lia) (by rw[hk];exact⟨_,I',q⟩)
theorem rm(lo hi:Option Int)(n:Nat):(sliceBounds lo hi none n).1=((HT.sIx n 0 lo:Nat):Int)/\(sliceBounds lo hi none n).2.1=((HT.sIx n n hi:Nat):Int)/\(sliceBounds lo hi none n).2.2=1:=by
 refine⟨?_,?_,rfl⟩
 ·cases lo with
  |none=>simp[sliceBounds,HT.sIx]
  |some i=>
   simp only[sliceBounds,HT.sIx,Option.getD_none,show (1:Int)>0 by decide,if_true];by_cases h:i<0
   ·simp only[h,if_true]<;>lia
   ·simp only[h,if_false]<;>lia
 ·cases hi with
  |none=>simp[sliceBounds,HT.sIx]
  |some i=>
   simp only[sliceBounds,HT.sIx,Option.getD_none,show (1:Int)>0 by decide,if_true];by_cases h:i<0
   ·simp only[h,if_true]<;>lia
   ·simp only[h,if_false]<;>lia
theorem oS(its:List ae)(lo hi:Option Int):slicePick its.toArray lo hi none=((its.drop (HT.sIx its.length 0 lo)).take (HT.sIx its.length its.length hi-HT.sIx its.length 0 lo)).toArray:=by
 obtain⟨h1,h2,h3⟩:=rm lo hi its.toArray.size;unfold slicePick;rw[h1,h2,h3];simp only[sliceRange_one,pick_run,aN]<;>rfl
noncomputable def pG(K:aq):V->Option Int->Option Int->Hp->VK->Prop:=λx lo hi H Q=>∃a xs,x=.ref a/\SqL K H a xs/\∀p,H p=none->Q (.ref p) (upd H p (.lst (dz xs lo hi)))
theorem vi:SlR X (pG X.K):=by
 intro pins s σ H x v vl vu lo hi sl Q I rx hs pl pu h;obtain⟨a,xs,rfl,hx,q⟩:=h;cases rx;obtain⟨its,r,ht,hz⟩:=I.list hx;have hlen:=r.length;refine⟨"list",_,slot_list_getitem.lookup,ht.isList.typeIs,?_⟩;refine wpAny_getItem_list_slice ht.isList hs pl pu .none (by simp) ?_ (by rw[aN]<;>lia);rw[oS,<-hlen];refine⟨.ref s.heap.objs.size,_,I.laid (t':=s.toks) (o:=.lst (dz xs lo hi)) (λb ob q=>Heap.get?_push_of_some _ q) (aC _) ?_,rfl,q _ (I.hok.fresh (aC _))⟩;exact⟨aS (jl xs lo hi) hz,_,0,(r.drop (HT.sIx xs.length 0 lo)).take (HT.sIx xs.length xs.length hi-HT.sIx xs.length 0 lo),Heap.get?_push_size _ rfl⟩
theorem uk:zh X (.builtin "len") (λxs H Q=>∃p ys,xs=[.ref p]/\(SqL X.K H p ys\/SqT X.K H p ys)/\Q (.int ys.length) H):=by
 intro pins s σ H xs us Q I r h;obtain⟨p,ys,rfl,hq,q⟩:=h;obtain⟨u,rfl,rx⟩:=vals1 r;cases rx;have hn:=fo;rcases hq with hq|hq
 ·obtain⟨its,r',pl,hz⟩:=I.list hq;have hlen:=r'.length;exact Calls.call_len_list pl.isList (by simp only[aN]<;>lia) ⟨.int ys.length,H,I.tok _,⟨s.toks+1,by rw[aN,hlen]⟩,q⟩
 ·obtain⟨its,r',pl,hz⟩:=I.tuple hq;have hlen:=r'.length;exact len_tuple pl (by simp only[aN]<;>lia) ⟨.int ys.length,H,I.tok _,⟨s.toks+1,by rw[aN,hlen]⟩,q⟩
theorem zh.or{f:ae}{r r':List V->Hp->VK->Prop}(h:zh X f r)(h':zh X f r'):zh X f (λxs H Q=>r xs H Q\/r' xs H Q):=by
 intro pins s σ H xs us Q I rs q;rcases q with q|q
 ·exact h pins s σ H xs us Q I rs q
 ·exact h' pins s σ H xs us Q I rs q
theorem ux:zh X (.type "list") (λxs H Q=>∃p ys,xs=[.ref p]/\(SqL X.K H p ys\/SqT X.K H p ys)/\∀l,H l=none->Q (.ref l) (upd H l (.lst ys))):=by
 intro pins s σ H xs us Q I r h;obtain⟨p,ys,rfl,hq,q⟩:=h;obtain⟨u,rfl,rx⟩:=vals1 r;cases rx;have fin:∀(its:List ae),Vals ys its->ys.length<=aF->∀(h':Heap) (c':Nat),(∀b o',s.heap.get? b=some o'->h'.get? b=some o') ->
   h'.get? s.heap.objs.size=some {cls:=.type "list",dict:=none,data:=.seq its.toArray c',slots:=#[]}->EP X pins σ Q (.ref s.heap.objs.size) {s with heap:=h'}:=λits r' hz h' c' kp e=>
  ⟨.ref s.heap.objs.size,_,I.laid (t':=s.toks) kp (aC _) (show zy X.prog X.w _ h' _ (.lst ys)from ⟨hz,its,c',r',e⟩),rfl,q _ (I.hok.fresh (aC _))⟩
 rcases hq with hq|hq
 ·obtain⟨its,r',pl,hz⟩:=I.list hq;have hlen:=r'.length;obtain⟨o,ho,hc,n,hd⟩:=pl.isList;exact call_list_seq p (.inl rfl) ho hc hd (λh' c' kp e=>fin its r' hz h' c' kp e) (by simp only[aN]<;>lia)
 ·obtain⟨its,r',pl,hz⟩:=I.tuple hq;have hlen:=r'.length;obtain⟨o,ho,hc,n,hd⟩:=pl;exact call_list_seq p (.inr rfl) ho hc hd (λh' c' kp e=>fin its r' hz h' c' kp e) (by simp only[aN]<;>lia)
theorem o6:zh X (.type "tuple") (λxs H Q=>∃p ys,xs=[.ref p]/\((SqL X.K H p ys/\∀l,H l=none->Q (.ref l) (upd H l (.tup ys)))\/(SqT X.K H p ys/\Q (.ref p) H))):=by
 intro pins s σ H xs us Q I r h;obtain⟨p,ys,rfl,h⟩:=h;obtain⟨u,rfl,rx⟩:=vals1 r;cases rx;rcases h with ⟨hq,q⟩|⟨hq,q⟩
 ·obtain⟨its,r',pl,hz⟩:=I.list hq;have hlen:=r'.length;refine call_tuple_list pl.isList (λh' kp=>?_) (by simp only[aN]<;>lia);have I1:Inv X pins σ H {s with heap:=h'}:=I.kept (t':=s.toks) kp;have I2:Inv X pins σ (upd H h'.objs.size (.tup ys)) {s with heap:=h'.push {cls:=.type "tuple",data:=.seq its.toArray}}:=
   I1.laid (t':=s.toks) (λb o e=>Heap.get?_push_of_some _ e) (aC _) (show zy X.prog X.w _ _ _ (.tup ys)from ⟨hz,its,r',IsTup.new _ _⟩)
  exact⟨.ref h'.objs.size,_,I2,rfl,q _ (I1.hok.fresh (aC _))⟩
 ·obtain⟨its,r',pl,hz⟩:=I.tuple hq;exact call_tuple_same pl ⟨.ref p,H,I,rfl,q⟩
noncomputable def tyV(K:aq)(T:String)(x:V)(H:Hp):Prop:=match x with
 | .str _=>T = "str"
 | .int _=>T = "int"
 | .ref p=>(T = "list"/\∃xs,SqL K H p xs)\/(T = "tuple"/\∃o,K.lookup p=some o/\o.cls=.type "tuple"/\o.dict=none) \/
   (T = "dict"/\((∃kvs,H p=some (.dK kvs))\/∃kvs,H p=some (.dT kvs)))\/(T = "set"/\∃S n,H p=some (.set S n))
 |_=>False
theorem tO{pins:List (Addr×Obj)}{σ:St}{H:Hp}{s:af}{T:String}{x:V}{v:ae}(I:Inv X pins σ H s)(r:RelV x v)(ty:tyV X.K T x H) :
  s.TypeIs v T/\∀a,v=.ref a->∃ob,s.heap.get? a=some ob/\ob.dict=none:=by
 cases x with
 |str z=>
  obtain⟨t,rfl⟩:=r;cases (show T = "str" from ty);exact⟨typeIs_str s z t,λ_ e=>nomatch e⟩
 |int i=>
  obtain⟨t,rfl⟩:=r;cases (show T = "int" from ty);exact⟨typeIs_int s i t,λ_ e=>nomatch e⟩
 |ref p=>
  cases r;rcases ty with ⟨rfl,xs,hq⟩|⟨rfl,o,hk,hc,hd⟩|⟨rfl,hk⟩|⟨rfl,S,n,hk⟩
  ·obtain⟨its,_,pl,_⟩:=I.list hq;refine⟨pl.isList.typeIs,λa e=>?_⟩;cases e;obtain⟨o,n,e,c,hd,_⟩:=pl;exact⟨o,e,hd⟩
  ·refine⟨⟨o,I.kIn p o hk,hc⟩,λa e=>?_⟩;cases e;exact⟨o,I.kIn _ o hk,hd⟩
  ·have z:∃o,s.heap.get? p=some o/\o.ExactDict:=by
    rcases hk with ⟨kvs,hk⟩|⟨kvs,hk⟩
    ·obtain⟨_,_,_,_,o,_,_,e,ex,_⟩:=I.hok p _ hk;exact⟨o,e,ex⟩
    ·obtain⟨_,_,_,_,o,_,_,e,ex,_⟩:=I.hok p _ hk;exact⟨o,e,ex⟩
   obtain⟨o,e,ex⟩:=z;refine⟨⟨o,e,ex.1⟩,λa e2=>?_⟩;cases e2;exact⟨o,e,ex.2.1⟩
  ·obtain⟨o,_,_,_,e,ex,_⟩:=I.hok p _ hk;refine⟨⟨o,e,ex.1⟩,λa e2=>?_⟩;cases e2;exact⟨o,e,ex.2.1⟩
 |_=>exact aJ ty
noncomputable def tBM(K:aq)(T:String)(r:V->List V->Hp->VK->Prop)(to:TE)(t:TA):TE:=λσ H Q=>to σ H λx H1=>tyV K T x H1/\t σ H1 λxs H2=>r x xs H2 Q
variable{o e:Expr}{es:List Expr}{to:TE}{t:TA}{name:Str}{apos cpos:Pos}{T id:String}{r:V->List V->Hp->VK->Prop}
theorem fI(pa:PlainAttrs T)(slot:Slot T name id)(hty:typeOf (.builtin id)=pure (.type "method_descriptor"))(hm:MtR X id r)(ho:PE X o to)(ha:PA X (e::es) t)
  (hbase:attributeBase o name X.env (eval o X.env)=eval o X.env:=by rfl)
  (hfew:((backTo cpos (aK (e::es) X.env)).all (λx=>!x.1)&&(backToKw cpos (keywordEach [] X.env)).all (λx=>x.1.isSome)
   && decide ((e::es).length+([]:List Keyword).length+(if ([]:List Keyword).isEmpty then 0 else 1)<30))=true:=by rfl)
  (hline:(apos.endLine==cpos.line)=true:=by rfl) (hs:aK (e::es) X.env=(false,eval e X.env)::aK es X.env:=by rfl) (hplain:(backTo cpos (aK es X.env)).any (·.1)=false:=by rfl) :
  PE X (.Call (.Attribute o name apos) (e::es) [] cpos) (tBM X.K T r to t):=by
 intro pins s σ H Q I h;refine wpAny_Call_method_late hbase hfew hline rfl (thn (ho pins s σ H _ I h) λv s1 ⟨x,H1,I1,r1,ty,q1⟩=>?_);obtain⟨h1,h2⟩:=tO I1 r1 ty;refine⟨T,id,pa,slot,hty,h1,h2,?_⟩;have hA:=ha cpos pins s1 σ H1 _ I1 q1;rw[hs]at hA ⊢;refine Calls.callWith_builtin (by show (false||(backTo cpos (aK es X.env)).any (·.1))=false;rw[hplain]<;>rfl) (Calls.evalArgs_plain ?_);exact thn hA λus s2 ⟨vs,H2,I2,r2,q2⟩=>hm pins s2 σ H2 x vs v us Q I2 r1 r2 q2
/- xs.append(e), list.index on a module's tuple .. are MtR facts of 06m -/
end
noncomputable def MtM(X:Cx)(id:String)(r:V->List V->Hp->VK->Prop):Prop:=
 ∀(pins:List (Addr×Obj)) (s:af) (σ:St) (H:Hp) (x:V) (xs:List V) (v:ae) (us:List ae) (Q:VK),Inv X pins σ H s->RelV x v->Vals xs us->r x xs H Q ->
  ak (ao X.prog X.w) X.A (call (.builtin id) (v::us)) (EP X pins σ Q) X.xe s
theorem Vals.one{x:V}{us:List ae}(h:Vals [x] us):∃u,us=[u]/\RelV x u:=by
 cases h with
 |cons r h=>cases h;exact⟨_,rfl,r⟩
theorem Vals.two{x y:V}{us:List ae}(h:Vals [x,y] us):∃u v,us=[u,v]/\RelV x u/\RelV y v:=by
 cases h with
 |cons r h=>cases h with
  |cons q h=>cases h;exact⟨_,_,rfl,r,q⟩
theorem Vals.zero:∀{us:List ae},Vals [] us->us=[]
 |_,.nil=>rfl
section
variable{X:Cx}{pins:List (Addr×Obj)}{σ:St}{H:Hp}{s:af}{l b:Addr}{xs ys zs:List V}
theorem Inv.lset{its its':List ae}{n:Nat}{f:Array ae->Array ae}{t':Nat}(I:Inv X pins σ H s)(hH:H l=some (.lst xs))
  (e:s.heap.get? l=some {cls:=.type "list",data:=.seq its.toArray n}) (hf:f its.toArray=its'.toArray) (hv:Vals ys its') (hz:ys.length<=aF) :
  Inv X pins σ (upd H l (.lst ys)) {s with heap:=s.heap.update l (Obj.mapSeq f),toks:=t'}:=by
 have q:=PySem.IsL.update e f;rw[hf]at q;refine I.write (x:=l) (e:=l) (by rw[hH];exact trivial) (.inl rfl) (λb' u hb hu=>(Heap.get?_update_other s.heap (Obj.mapSeq f) (Ne.symm hb)).trans hu) ⟨_,q⟩ ?_;exact⟨hz,its',_,hv,q⟩
theorem Inv.lnew{its:List ae}{t':Nat}(I:Inv X pins σ H s)(hv:Vals ys its)(hz:ys.length<=aF) :
  Inv X pins σ (upd H s.heap.objs.size (.lst ys)) {s with heap:=s.heap.push {cls:=.type "list",data:=.seq its.toArray},toks:=t'}:=
 I.laid (λ_ _ q=>Heap.get?_push_of_some _ q) (aC _) ⟨hz,its,0,hv,Heap.get?_push_size _ rfl⟩
theorem Inv.fresh(I:Inv X pins σ H s):H s.heap.objs.size=none:=I.hok.fresh (aC _)
theorem Inv.lstM(I:Inv X pins σ H s)(hH:H l=some (.lst xs)):xs.length<=aF/\∃(its:List ae) (n:Nat),Vals xs its/\xs.length=its.length/\s.heap.get? l=some {cls:=.type "list",data:=.seq its.toArray n}:=by
 obtain⟨z,its,n,r,e⟩:=I.hok l _ hH;exact⟨z,its,n,r,r.length,e⟩
end
section
variable{X:Cx}
noncomputable def rE:V->List V->Hp->VK->Prop:=λx vs H Q=>∃l xs y,x=.ref l/\vs=[y]/\H l=some (.lst xs)/\xs.length<aF/\Q .non (upd H l (.lst (xs++[y])))
theorem kj:MtM X "list.append" rE:=by
 intro pins s σ H x vs v us Q I rx rv h;obtain⟨l,xs,y,rfl,rfl,hH,hz,q⟩:=h;cases rx;obtain⟨u,rfl,ru⟩:=rv.one;obtain⟨z,its,n,r,hl,e⟩:=I.lstM hH;refine call_meets F.slot_list_append ⟨_,e,rfl⟩ F.entry_list_append (F.args_list_append_2 _ _) (PySem.list_append l its.toArray n u (by rw[aN];lia)) ⟨e,?_⟩;refine⟨.non,_,I.lset (its':=its++[u]) hH e (by simp) (r.append (.cons ru .nil)) ?_,rfl,q⟩;rw[List.length_append,List.length_singleton];lia
end
section
variable{prog:aw}{w:ar}{A:av}{E:ae->af->Prop}{s:af}
set_option maxRecDepth 100000 in
end
section
variable{X:Cx}
end
end L2
namespace Att
open PySem PySem.W PySem.Calls PyProof.Rows
theorem pD{P:Params}{h:Heap}:∀(ns:List Int) (vs:List ae),WellAll P h vs (ns.map WData.int)->IntsAre vs ns:=by
 intro ns
 induction ns with
 |nil=>
  intro vs w;rw[List.map_nil]at w;cases w;exact .nil
 |cons n ns ih=>
  intro vs w;rw[aY]at w;cases w with
  |cons a b=>
   cases a;exact .cons _ _ (ih _ b)
theorem pS{l:OpenLaw}{n:Nat}(hn:l.most=some n){P:Params}{h:Heap}{args:List WData}{vals:List ae}
  (hpre:l.row.toRowW.claim.pre args=true) (hwl:WellAll P h vals args) :
  ∃a vs ns,vals=[ae.ref a]/\args=[WData.list (ns.map WData.int)]/\h.get? a=some {cls:=.type "list",data:=.seq vs.toArray}/\IntsAre vs ns/\ns.length<=n:=by
 have hsh:WShape.hasAll [] args [.list .int]=true:=(pre_splitW hpre).1;have hc:l.pre.holds [] {args:=args}=true:=(pre_splitW hpre).2;obtain⟨d,r,rfl,h1,h2⟩:=hasAllW_cons hsh;obtain rfl:=hasAllW_nil h2;obtain⟨xs,rfl,h3⟩:=hasW_list h1;obtain⟨ns,rfl⟩:=items_int h3;have hlen:ns.length<=n:=by
  unfold OpenLaw.pre at hc;have h4:(WTm.not (.lt (.lit (.int (n:Int))) (.len (.arg 0)))).holds [] {args:=[.list (ns.map .int)]}=true:=by
   have h4:=(holds_andW hc).1;rw[hn]at h4;exact h4
  have h5:=condW_of h4 (w_not (w_lt w_lit (w_len_list (w_arg rfl))));rw[bK]at h5;refine Nat.le_of_not_lt λq=>?_
  have q':(n:Int)<((ns.length:Nat):Int):=by lia
  first
   | (rw[decide_eq_true q']at h5;exact absurd h5 (by decide))
   | (simp at h5;lia)
 cases hwl with
 |cons w1 w2=>
  cases w2;cases w1 with
  |list ho hall=>exact⟨_,_,ns,rfl,rfl,ho,pD ns _ hall,hlen⟩
theorem pA(l:OpenLaw)(args:List WData):l.row.toRowW.claim.post args (.bool true) args=true:=
 postW_of (r:=l.row.toRowW) (X:=(true==true))
  (show WShape.has [] (.bool true) .bool=true by first|rfl|decide|simp[WShape.has,WShape.arms,WShape.armsAll])
  (show (WTm.eq .res (.lit (.bool true))).value [] {args:=args,res:=some (.bool true),after:=args}=some (.bool (true==true))from w_eq_bool (w_res rfl) w_lit) rfl
theorem uy{l:OpenLaw}{n:Nat}{q:aw}{loose:List Str}{XP:(Str->Option ae)->Heap->Prop}{YP:ar->Heap->Prop}{d:DefRec}
  (hn:l.most=some n) (hdf:d.params.defaults=[])
  (call:∀(w:ar) (s₀ s₁:af) (mg mb:Str->Option ae) (fa:Addr) (o:Obj) (pm cd doc:ae) (a:Addr) (vs:List ae) (ns:List Int),
   Ground q loose [] XP w s₀ mg mb s₁.heap->YP w s₁.heap ->
   s₁.heap.get? fa=some o->o.data=.func (docDef d.name d.params d.body d.scope pm cd doc)->s₁.heap.CodeRec cd d.name->mg d.name=some (.ref fa) ->
   s₁.heap.get? a=some {cls:=.type "list",data:=.seq vs.toArray}->IntsAre vs ns->ns.length<=n->s₁.gens = #[] ->
   codeAny (ao l.prog w) callerA (.call (.ref fa) ⟨[.ref a],[]⟩) (λr s'=>r=.ok (.ret (.bool true))/\OldK s₁.heap s'.heap/\s'.os=s₁.os/\AllBare s'.gens) s₁) :
  WalkO q loose XP YP l.row.toRowW d [] (λf vs=>PySem.call f vs):=by
 intro w s₀ s₁ mg mb G Y fa o pm cd doc dV kV ho hd hcd hD hmg hg args vals as hpre hlay hrd hwl hlo;obtain rfl:dV=.none:=Dflts.none hD hdf;obtain rfl:kV=.none:=Dflts.noKw hD;obtain⟨a,vs,ns,rfl,rfl,hobj,hints,hlen⟩:=pS hn hpre hwl;refine enter_call (codeAny_mono (call w s₀ s₁ mg mb fa o pm cd doc a vs ns G Y ho (fd_plain hd) hcd hmg hobj hints hlen hg) λr s' hq=>?_);obtain⟨rfl,h2,h3,h4⟩:=hq;exact⟨.inl ⟨.bool true,.bool true,[],rfl,λ_=>rfl,.bool true,pA l _,λ_=>⟨List.Pairwise.nil,λ_ hm=>(nomatch hm)⟩⟩,h2,h3,h4⟩
section
variable{prog:aw}{w:ar}{A:av}{E:ae->af->Prop}{s:af}{K:Frag}
end
end Att
namespace L2
open PySem PySem.Spec PyProof.Rows
theorem l6:∀{vs:List ae}{ns:List Int},IntsAre vs ns->Vals (ns.map V.int) vs
 |_,_,.nil=>.nil
 |_,_,.cons n t h=>.cons ⟨t,rfl⟩ (l6 h)
noncomputable def iG(H:Hp):Prop:=∀b,H b=none\/∃o xs,H b=some (.frz o (.lst xs))
theorem sV{P:aw}{w:ar}{K:aq}{mg mb:Str->Option ae}{CX:CXT}{k:Nat}{fa a:Addr}{fd:a8}{x:Str}{sp:Sp}{s₁:af}{vs:List ae}{ns:List Int}
  (KX:K.In s₁.heap) (hns:s₁.heap.Ns ah mg) (hb:s₁.heap.Ns builtinsNs mb) (hbb:∀x:Str,x≠"__name__"->mb x=bg x) (hlim:s₁.heap.NoLimit) (hg:s₁.gens = #[])
  (ha:s₁.heap.get? a=some {cls:=.type "list",data:=.seq vs.toArray}) (hi:IntsAre vs ns) (hl:ns.length<=aF) (hr:bC k callerA)
  (F:∀base:Heap,K.In base->base.Ns ah mg->dj P w K mg base CX k fa fd [x] sp) (hbind:∀(s:af) (u:ae),BindsTo s fd ⟨[u],[]⟩ [(x,u)])
  (hsp:∀H:Hp,iG H->SqL K H a (ns.map V.int)->sp [.ref a] H (λv _=>v=.bl true) λ_ _ _=>False)
  (hCX:∀H e s',CX [] H s₁ (λ_ _ _=>False) e s'->False) :
  codeAny (ao P w) callerA (.call (.ref fa) ⟨[.ref a],[]⟩) (λr s'=>r=.ok (.ret (.bool true))/\OldK s₁.heap s'.heap/\s'.os=s₁.os/\AllBare s'.gens) s₁:=by
 have rv:=l6 hi;have lenV:=hi.length
 -- from an abstract heap in which nothing but the script may be tracked
 have core:∀H:Hp,iG H->SqL K H a (ns.map V.int)->HOk P w H s₁.heap->(∀b,H b≠none->b=a)->(H a≠none->K.lookup a=none) ->
   codeAny (ao P w) callerA (.call (.ref fa) ⟨[.ref a],[]⟩) (λr s'=>r=.ok (.ret (.bool true))/\OldK s₁.heap s'.heap/\s'.os=s₁.os/\AllBare s'.gens) s₁:=by
  intro H hO hS hok hA hK;have base_of:∀{b:Addr}{o:Obj},s₁.heap.get? b=some o->H b=none->(cY s₁.heap H).get? b=some o:=λe n=>wu e n
  have noA:∀{b:Addr}{o:Obj}{es:Array DictEntry}{ep:Nat},s₁.heap.get? b=some o->o.data=.dict es ep->H b=none:=λ{b o es ep} e d=>by
   cases q:H b with
   |none=>rfl
   |some u=>
    have e':b=a:=hA b (by rw[q];simp);subst e';rw[ha]at e;cases e;have d':Data.seq vs.toArray _=Data.dict es ep:=d;cases d'
  have nsK:∀{b:Addr}{m:Str->Option ae},s₁.heap.Ns b m->(cY s₁.heap H).Ns b m:=λ{b m} ⟨o,es,ep,e,d,r⟩=>⟨o,es,ep,base_of e (noA e d),d,r⟩
  have hKb:K.In (cY s₁.heap H):=λb o e=>base_of (KX b o e) (by
   cases q:H b with
   |none=>rfl
   |some u=>
    have e':b=a:=hA b (by rw[q];simp);subst e';rw[hK (by rw[q];simp)]at e;cases e)
  have hM:Mod K mg (cY s₁.heap H):=⟨hKb,nsK hns,⟨mb,nsK hb,hbb⟩,let ⟨mc,h1,h2⟩:=hlim;⟨mc,nsK h1,h2⟩⟩
  have e0:dF P w K mg (cY s₁.heap H) callerA [] s₁ H:=⟨rfl,hM,λb o e=>nZ e,Nat.le_of_eq (uw _ _),trivial,λb hb=>absurd (show b∈([]:List Addr)from hb) (by simp),hok,.of_eq hg⟩
  refine codeAny_mono ((F _ hKb (nsK hns)).run callerA [] s₁ H ⟨[.ref a],[]⟩ [.ref a] [.ref a] _ _ hr e0 (hbind s₁ (.ref a)) (.cons rfl .nil) (hsp H hO hS)) λr s' h=>?_
  cases r with
  |error e=>exact(hCX H e s' h).elim
  |ok fl=>
   cases fl with
   |next=>exact aJ h
   |brk=>exact aJ h
   |cont=>exact aJ h
   |ret u=>
    obtain⟨v,H',os,bare,un,hok',r',q⟩:=h;have q':v=.bl true:=q;subst q';obtain rfl:u=a7 true:=r';refine⟨rfl,OldK.of_keep λb o e=>?_,os,bare⟩;cases q:H b with
    |none=>exact un.keep b o e q (by intro z;exact absurd (show b∈([]:List Addr)from z) (by simp)) (by simp)
    |some u=>
     rcases hO b with z|⟨ob,xs,z⟩
     ·rw[q]at z;cases z
     ·have z2:=un.frzs b ob _ z;obtain⟨e1,_⟩:=hok b _ z;obtain⟨e2,_⟩:=hok' b _ z2;rw[e]at e1;cases e1;exact e2
 cases hk:K.lookup a with
 |some o=>
  -- the script is one of the module's own objects
  have e:=KX a o hk;rw[ha]at e;cases e;refine core (λ_=>none) (λ_=>.inl rfl) (.inr ⟨_,vs.toArray,_,hk,rfl,rfl,rfl,by rw[aN,lenV];exact hl,by simpa using rv⟩) (λb u z=>by have z':(none:Option HO)=some u:=z;cases z') (λb z=>absurd rfl z) λz=>absurd rfl z
 |none=>
  refine core (λb=>if b=a then some (.frz {cls:=.type "list",data:=.seq vs.toArray} (.lst (ns.map V.int)))else none) (λb=>?_) (.inl (.inr ⟨{cls:=.type "list",data:=.seq vs.toArray},if_pos rfl⟩)) (λb u z=>?_) (λb z=>?_) λ_=>hk
  ·by_cases hb:b=a
   ·exact .inr ⟨_,_,if_pos hb⟩
   ·exact .inl (if_neg hb)
  ·by_cases hb:b=a
   ·have z':=(if_pos hb).symm.trans z;cases z';subst hb;exact⟨ha,by rw[bK];exact hl,vs,_,rv,ha⟩
   ·have z':=(if_neg hb).symm.trans z;cases z'
  ·by_cases hb:b=a
   ·exact hb
   ·exact absurd (if_neg hb) z
theorem sv{l:PySem.W.OpenLaw}{n k:Nat}{q:aw}{loose:List Str}{XP:(Str->Option ae)->Heap->Prop}{YP:ar->Heap->Prop}{d:DefRec}{K:Params->aq}{CX:ar->CXT}{sp:ar->Sp}{x:Str}
  (hn:l.most=some n) (hn2:n<=aF) (hdf:d.params.defaults=[]) (hr:bC k callerA)
  (hY:∀(w:ar) (h:Heap),YP w h->(K w.params).In h)
  (F:∀(w:ar) (mg:Str->Option ae) (fa:Addr) (h:Heap),(K w.params).In h->h.Ns ah mg->mg d.name=some (.ref fa) ->
   ∃fd:a8,(∀(s:af) (u:ae),BindsTo s fd ⟨[u],[]⟩ [(x,u)]) /\
    ∀base:Heap,(K w.params).In base->base.Ns ah mg->dj l.prog w (K w.params) mg base (CX w) k fa fd [x] (sp w))
  (hsp:∀(w:ar) (H:Hp) (a:Addr) (ns:List Int),ns.length<=n->iG H->SqL (K w.params) H a (ns.map V.int)->sp w [.ref a] H (λv _=>v=.bl true) λ_ _ _=>False)
  (hCX:∀(w:ar) (H:Hp) (s:af) (e:ae) (s':af),CX w [] H s (λ_ _ _=>False) e s'->False) :
  PySem.W.WalkO q loose XP YP l.row.toRowW d [] (λf vs=>PySem.call f vs):=by
 refine Att.uy hn hdf λw s₀ s₁ mg mb fa o pm cd doc a vs ns G Y ho hd hcd hmg hobj hints hlen hg=>?_
 have KX:=hY w _ Y;obtain⟨fd,hb,hF⟩:=F w mg fa _ KX G.T.g hmg;exact sV KX G.T.g G.T.b G.T.builtins G.T.nolimit hg hobj hints (aS hlen hn2) hr hF hb (λH hO hS=>hsp w H a ns hlen hO hS) λH e s'=>hCX w H s₁ e s'
end L2
/- THE LAST THEOREM (shape; LID, My.* are yours):
   My.Adr: a structure of the addresses that your layer names (classes, functions); My.Txt K t: a structure (Prop) of the equations over K;
   My.txt_mk : {K} {implicit addresses ..} (e1 : nsIn K mainGlobals "law" = some (some (.ref f))) (e2 : K.lookup f = some ⟨oc, od, .func (fnOf "law" "law" params body scope dV kV doc pm an cdv ct), sl⟩) (e3 : codeIn K cdv "law" = true) .. : ∃ t, My.Txt K t
set_option maxRecDepth 100000 in
set_option maxHeartbeats 0 in
theorem PySem.Challenge.cw_LID_holds : PySem.Challenge.rw_LID.Holds := by
 w_on; o_law; k_head; (case hw => w_witness2)
 k_fill
 refine L2.walk_of (l := PySem.Challenge.rw_LID) (n := 63) (k := 40) (x := "script") (CX := fun w => ..) (sp := fun _ => My.sp_law) rfl (by decide) rfl ⟨rfl, by decide, by decide⟩ (fun w h Y => PySem.W.kIn_of Y) ?F ?S ?C
 case F =>
  intro w mg fa h KX G hmg;have T : ∃ t, My.Txt (L2.KOf KX) t := by
   dsimp only [L2.KOf]                          -- K must stand as «<heap const> w.params» for k_is
   refine' My.txt_mk ?e1 ?e2 ?e3 ..
   (case e1 => PySem.W.k_is)                    -- in the order: a name -> its address -> its object -> its parts
   (case e2 => PySem.W.k_is)
   ..
  obtain ⟨t, T⟩ := T;have e0 := hmg.symm.trans (PySem.W.mg_of KX G T.law);cases e0                                       -- fa is the law's own address
  exact ⟨_, fun s u => .of_eq rfl, fun base kb nb => My.law_fn T kb nb⟩     -- if «.of_eq rfl» comes too early: refine' ⟨_, ?b, fun base kb nb => My.law_fn T kb nb⟩; exact fun s u => .of_eq rfl
 case S => exact fun w H a ns hl hO hS => ..
 case C => exact ..
(the tactic k_is has no namespace: write k_is) -/
namespace L2
open PySem PySem.Spec PyProof.Rows
noncomputable def qS(s:Stmt):Arguments:=match s with
 | .FunctionDef _ a _ _ _ _ _ _ _ _=>a
 |_=>{posonlyargs:=[],args:=[],vararg:=none,kwonlyargs:=[],kw_defaults:=[],kwarg:=none,defaults:=[]}
noncomputable def zF(s:Stmt):List Stmt:=match s with
 | .FunctionDef _ _ b _ _ _ _ _ _ _=>b
 |_=>[]
noncomputable def qR(s:Stmt):Scope:=match s with
 | .FunctionDef _ _ _ _ _ _ sc _ _ _=>sc
 |_=>{kind:=.function,names:=[],isGenerator:=false,isCoroutine:=false}
abbrev E0:XK:=λ_ _ _=>False
structure Fun(K:aq)(x qual:Str)(st:Stmt)(f:Addr)(fd:a8):Prop where
 ex:∃(oc:ae) (od:Option Addr) (kV doc pm:ae) (an:Option Addr) (cdv ct:ae) (osl:Array (Option ae)),
  fd=bw x qual (qS st) (zF st) (qR st) .none kV doc pm an cdv ct/\K.lookup f=some ⟨oc,od,.func fd,osl⟩/\PySem.W.codeIn K cdv qual=true
 kp:bH K (.ref f)=true
section
variable{P:aw}{w:ar}{K:aq}{mg:Str->Option ae}{base:Heap}
theorem Fun.binds{x qual:Str}{st:Stmt}{f:Addr}{fd:a8}{ps:List Str}(F:Fun K x qual st f fd)
  (h:∀(kV doc pm:ae) (an:Option Addr) (cdv ct:ae) (us:List ae),us.length=ps.length->bindArgs (bw x qual (qS st) (zF st) (qR st) .none kV doc pm an cdv ct) ⟨us,[]⟩=pure (ps.zip us)):Binds K fd ps []:=by
 obtain⟨oc,od,kV,doc,pm,an,cdv,ct,osl,rfl,lk,hcd⟩:=F.ex;exact .all (h kV doc pm an cdv ct)
theorem jf{x qual:Str}{st:Stmt}{f:Addr}{oc:ae}{od an:Option Addr}{osl:Array (Option ae)}{kV doc pm cdv ct:ae}(l:K.lookup f=some ⟨oc,od,.func (bw x qual (qS st) (zF st) (qR st) .none kV doc pm an cdv ct),osl⟩)
  (c:PySem.W.codeIn K cdv qual=true) (k:bH K (.ref f)=true):Fun K x qual st f (bw x qual (qS st) (zF st) (qR st) .none kV doc pm an cdv ct):=⟨⟨oc,od,kV,doc,pm,an,cdv,ct,osl,rfl,l,c⟩,k⟩
end
section
variable{X:Cx}
end
noncomputable def qf(H H':Hp):Prop:=∀b o,H b=some o->H' b=some o
theorem qf.refl(H:Hp):qf H H:=λ_ _ h=>h
theorem qf.trans{H H1 H2:Hp}(a:qf H H1)(b:qf H1 H2):qf H H2:=λc o h=>b c o (a c o h)
theorem qf.free{H H':Hp}(e:qf H H'){l:Addr}(h:H' l=Option.none):H l=Option.none:=by
 cases q:H l with
 |none=>rfl
 |some o=>
  rw[e l o q]at h;cases h
theorem qf.seq{K:aq}{H H':Hp}{a:Addr}{xs:List V}(e:qf H H')(h:SqL K H a xs):SqL K H' a xs:=by
 rcases h with (h|⟨o,h⟩)|h
 ·exact .inl (.inl (e _ _ h))
 ·exact .inl (.inr ⟨o,e _ _ h⟩)
 ·exact .inr h
noncomputable def cW(elt:Expr)(gens:List bI)(scope:aH)(pos:Pos)(d:Nat)(acc:ae)(env:Env):Sem Unit:=
 match gens[d+1]? with
 |some g'=>do
  let x <-eval g'.iter env
  standAt g'.iter.pos
  let x <-foldedSetIterable g'.iter env x
  let _ <-runOwn (.compStart (.ListComp elt gens scope pos) (d+1) (<-holding [x] (pyIter x)) acc env) env
  pure ()
 |none=>do
  let _ <-call (.builtin "list.append") [acc,<-eval elt env]
  pure ()
theorem vp{elt:Expr}{gens:List bI}{scope:aH}{pos:Pos}{d:Nat}{g:bI}{it acc:ae}{env:Env}(hg:gens[d]? = some g)(ha:g.is_async=0)
  (hn:∀g',gens[d+1]? = some g'->g'.is_async=0) :
  compTurn (.ListComp elt gens scope pos) d it acc env=(do
   standAt g.iter.pos
   match <-pyNext it with
   |none=>pure (.done .next)
   |some v=>
    letOwnedTupleGo g.target it v
    assign g.target env v
    let ok <-(forIn g.ifs true λc r=>if r=true then do let ok <-isTrue c env (eval c env);pure (bU ok)else pure (bU r))
    if ok then
     cW elt gens scope pos d acc env
     again (.compLoop (.ListComp elt gens scope pos) d it acc env)
    else again (.compLoop (.ListComp elt gens scope pos) d it acc env)):=by
 unfold compTurn;cases e:gens[d+1]? with
 |none=>
  simp only[hg,ha,e,cW]
  rfl
 |some g'=>
  have ha':=hn g' e;simp only[hg,ha,e,ha',cW];simp only[bne_self_eq_false,bJ,if_false,bind_assoc,pure_bind]
  rfl
theorem m7{prog:aw}{w:ar}{A:av}{R:Result->af->Prop}{s:af}{elt:Expr}{gens:List bI}{scope:aH}{pos:Pos}{d:Nat}{g:bI}{it acc:ae}{env:Env}
  (hg:gens[d]? = some g) (ha:g.is_async=0)
  (h0:codeAny (ao prog w) A (.compLoop (.ListComp elt gens scope pos) d it acc env) R s)
  (h:ak (ao prog w) A (pyIter it) (λit' s'=>codeAny (ao prog w) A (.compLoop (.ListComp elt gens scope pos) d it' acc env) R s')
   (notedBy (ao prog w) A env λx s'=>R (.error x) s') s) :
  codeAny (ao prog w) A (.compStart (.ListComp elt gens scope pos) d it acc env) R s:=by
 refine codeAny_of_tree ?_;show ak _ _ ((compStart (.ListComp elt gens scope pos) d it acc env).onRaise (λx=>do noteFrame x env;standAt theWindowsPlace)) _ _ s;refine wpAny_notedAt ?_;unfold compStart;have e2:(clausesOf (.ListComp elt gens scope pos))[d]? = some g:=hg;simp only[e2];rw[if_neg (by show ¬ (g.is_async != 0)=true;simp[ha])];show ak _ _ (ask>>=_) _ _ s;refine au (wpAny_askSetting (wpAny_ite ?_));split
 ·first
   |exact au (aD (aD (aj rfl h0)))
   |exact aD (aj rfl h0)
 ·first
   |exact au (wpAny_rule (au (wpAny_standAt (au (bq h (λit' s' h'=>aD (aj rfl h')) λ_ _ x=>x)))))
   | (refine au (wpAny_rule ?_);show ak _ _ (standAt g.iter.pos>>=_) _ _ s;exact au (wpAny_standAt (au (bq h (λit' s' h'=>aD (aj rfl h')) λ_ _ x=>x))))
noncomputable def PTs(Y:Cx)(ifs:List Expr)(t:TT):Prop:=
 ∀(pins:List (Addr×Obj)) (s:af) (σ:St) (H:Hp) (Q:Bool->Hp->Prop),Inv Y pins σ H s->t σ H Q ->
  ak (ao Y.prog Y.w) Y.A (forIn ifs true λc r=>if r=true then do let ok <-isTrue c Y.env (eval c Y.env);pure (bU ok)else pure (bU r)) (TP Y pins σ Q) Y.xe s
noncomputable def wa:TT:=λ_ H Q=>Q true H
theorem wc{Y:Cx}:PTs Y [] wa:=λ_ _ _ H _ I h=>wpAny_tests_nil ⟨H,I,h⟩
theorem sX{Y:Cx}{c:Expr}{t:TT}(hc:PT Y c t):PTs Y [c] t:=λpins s σ H Q I h=>wpAny_tests_one (hc pins s σ H Q I h)
noncomputable def PB(Y:Cx)(m:Sem Unit)(t:TS):Prop:=
 ∀(pins:List (Addr×Obj)) (s:af) (σ:St) (H:Hp) (D:Ends),Inv Y pins σ H s->t D σ H ->
  ak (ao Y.prog Y.w) Y.A m (λ_ s'=>∃σ' H',Inv Y pins σ' H' s'/\D.nx σ' H') Y.xe s
section
variable{Y:Cx}{elt:Expr}{gens:List bI}{scope:aH}{pos:Pos}{d:Nat}
noncomputable def fF(acc:Addr)(te:TE):TS:=λD σ H=>te σ H λy H1=>∃xs,H1 acc=some (.lst xs)/\xs.length<aF/\D.nx σ (upd H1 acc (.lst (xs++[y])))
theorem jO{acc:Addr}{te:TE}(hn:gens[d+1]? = none)(he:PE Y elt te):PB Y (cW elt gens scope pos d (.ref acc) Y.env) (fF acc te):=by
 intro pins s σ H D I h;unfold cW;rw[hn];refine au (thn (he pins s σ H _ I h) λu s1 ⟨y,H1,I1,r1,xs,hx,hz,q⟩=>?_);refine au (thn (kj pins s1 σ H1 (.ref acc) [y] (.ref acc) [u] (λ_ H'=>D.nx σ H') I1 rfl (.cons r1 .nil) ⟨acc,xs,y,rfl,rfl,hx,hz,q⟩) λ_ s2 ⟨_,H2,I2,_,q2⟩=>?_);exact aD ⟨σ,H2,I2,q2⟩
theorem wM{g:bI}{it:Addr}{acc:ae}{fp:List Addr}{tn:Nat->Heap->Prop}{J:It}{tg:TG}{tt:TT}{tb:TS}(hc:Y.calm=true)(hx:∀e s,¬ Y.xe e s)(hg:gens[d]? = some g)(ha:g.is_async=0)
  (hn:∀g',gens[d+1]? = some g'->g'.is_async=0) (T:Turn Y.prog Y.w Y.K g.target J fp it tn) (pg:PG Y g.target tg) (pt:PTs Y g.ifs tt) (pb:PB Y (cW elt gens scope pos d acc Y.env) tb)
  {pins:List (Addr×Obj)}{s:af}{σ:St}{H:Hp}{D:Ends} (I:Inv Y pins σ H s) (st:tn 0 s.heap) (fr:∀b∈fp,b4 Y pins H b)
  (h:∃W:Nat->Nat->St->Hp->Prop,(∃m,W 0 m σ H)/\∀i m σ H,W i m σ H ->
   (J.stop i H/\D.nx σ H)\/(J.go i H/\∃N:St->Hp->Prop,(∀σ' H',N σ' H'->∃m',m'<m/\W (i+1) m' σ' H')/\∀x H',J.yld i H x H'->tg x σ H' λσ2 H2=>fZ tt tb eV {D with nx:=N,ct:=N,bk:=D.nx} σ2 H2)) :
  codeAny (ao Y.prog Y.w) Y.A (.compLoop (.ListComp elt gens scope pos) d (.ref it) acc Y.env) (λr s'=>r=.ok .next/\∃σ' H',Inv Y pins σ' H' s'/\D.nx σ' H') s:=by
 obtain⟨W,⟨m0,w0⟩,turn⟩:=h;have stat:∀{H':Hp},(∀b∈fp,H' b=none)->∀b∈fp,b4 Y pins H' b:=λhn b hb=>⟨hn b hb,(fr b hb).2⟩
 refine codeAny_loop rfl (λn s'=>∃i σ' H',Inv Y pins σ' H' s'/\tn i s'.heap/\(∀b∈fp,H' b=none)/\W i n σ' H') ?_ m0 ⟨0,σ,H,I,st,λb hb=>(fr b hb).1,w0⟩;rintro n s3 ⟨i,σ3,H3,I3,st3,fr3,w3⟩;show ak _ Y.A ((compTurn (.ListComp elt gens scope pos) d (.ref it) acc Y.env).onRaise (λx=>do noteFrame x Y.env;theTreesLotGoes x)) _ _ s3;refine wpAny_noted ?_;rw[vp hg ha hn];have nox:∀{E:ae->af->Prop} (e:ae) (s:af),Y.xe e s->E e s:=λe s z=>absurd z (hx e s)
 refine au (wpAny_standAt ?_);rcases turn i n σ3 H3 w3 with ⟨stop,qn⟩|⟨go,N,hN,step⟩
 ·refine au (thn (T.done Y rfl rfl rfl hc i pins s3 σ3 H3 _ I3 (stat fr3) st3 stop) λr s4 ⟨hr,I4⟩=>?_);subst hr;exact aD ⟨rfl,σ3,H3,I4,qn⟩
 ·refine au (thn (T.item Y rfl rfl rfl hc i pins s3 σ3 H3 _ I3 (stat fr3) st3 go) λr s4 ⟨u,hr,h4⟩=>?_);subst hr;refine au (thn h4 λ_ s5 ⟨x,H5,I5,r5,y5,st5,fr5⟩=>?_);have I5':=I5.pinned (stat fr5) (T.obj _ _ st5);refine au (bq (pg _ s5 σ3 H5 x u _ I5' r5 (step x H5 y5)) (λ_ s6 ⟨σ6,H6,I6,q6⟩=>?_) nox);have again:∀{s7:af}{σ7:St}{H7:Hp},Inv Y (pins++eQ fp s5.heap) σ7 H7 s7->N σ7 H7->∃m,m<n/\∃i σ' H',Inv Y pins σ' H' s7/\tn i s7.heap/\(∀b∈fp,H' b=none)/\W i m σ' H':=λ{s7 σ7 H7} I7 n7=>by
   obtain⟨m',hm,w7⟩:=hN σ7 H7 n7;refine⟨m',hm,i+1,σ7,H7,I7.unpinned,T.keep _ _ _ st5 λb hb o e=>(I7.pin (b,o) (bF _ (bF _ (gf hb e)))).1,λb hb=>?_,w7⟩;obtain⟨o,e,d⟩:=T.obj _ _ st5 b hb;exact(I7.pin (b,o) (bF _ (bF _ (gf hb e)))).2.1
  refine au (bq (pt _ s6 σ6 H6 _ I6 q6) (λb s7 ⟨H7,I7,q7⟩=>?_) nox);cases b with
  |true=>
   rw[if_pos rfl];rw[if_pos rfl]at q7;refine au (bq (pb _ s7 σ6 H7 _ I7 q7) (λ_ s8 ⟨σ8,H8,I8,q8⟩=>?_) nox);exact aD ⟨rfl,again I8 q8⟩
  |false=>
   rw[if_neg bT];rw[if_neg bT]at q7;exact aD ⟨rfl,again I7 q7⟩
end
theorem iU{env:Env}:∀{names:List (Str×aG)}{cs:List (Str×Addr)},(∀x∈names,x.2=.free->∃c,env.cells.lookup x.1=some c) ->
  ∃cl,(forIn names cs (λ(x:Str×aG) (cs:List (Str×Addr))=>if (x.2==bu)=true then do let c <-cellOf env x.1;pure (bU ((x.1,c)::cs))else pure (bU cs)):Sem (List (Str×Addr)))=pure cl /\
   (∀x c,cl.lookup x=some c->env.cells.lookup x=some c\/cs.lookup x=some c)/\(∀x,(∃c,cs.lookup x=some c)->∃c,cl.lookup x=some c)/\∀x∈names,x.2=.free->∃c,cl.lookup x.1=some c
 | [],cs,_=>⟨cs,by rw[List.forIn_nil],λ_ _ h=>.inr h,λ_ h=>h,λ_ h=>nomatch h⟩
 | (n,k)::r,cs,h=>by
  rw[List.forIn_cons];by_cases hk:k=.free
  ·subst hk;obtain⟨c,hc⟩:=h (n,.free) aM rfl;have e:cellOf env n=pure c:=by
    have hc':env.cells.lookup n=some c:=hc;unfold cellOf;rw[hc']
   obtain⟨cl,e1,e2,e3,e4⟩:=iU (names:=r) (cs:=(n,c)::cs) λx hx=>h x (aL _ hx)
   refine⟨cl,?_,λx c' q=>?_,λx q=>e3 x ?_,λx hx hf=>?_⟩
   ·simp only[beq_self_eq_true,if_true,e,pure_bind];exact e1
   ·rcases e2 x c' q with z|z
    ·exact .inl z
    ·rw[aV]at z;by_cases hxn:(x==n)=true
     ·rw[hxn]at z;have:x=n:=by simpa using hxn
      subst this;cases z;exact .inl hc
     ·have hxn':(x==n)=false:=by simpa using hxn
      rw[hxn']at z;exact .inr z
   ·rw[aV];by_cases hxn:(x==n)=true
    ·rw[hxn];exact⟨c,rfl⟩
    ·have hxn':(x==n)=false:=by simpa using hxn
     rw[hxn'];exact q
   ·rcases aI.mp hx with z|z
    ·subst z;exact e3 n ⟨c,by rw[aV,beq_self_eq_true]⟩
    ·exact e4 x z hf
  ·have hk':(k==bu)=false:=by simpa using hk
   obtain⟨cl,e1,e2,e3,e4⟩:=iU (names:=r) (cs:=cs) λx hx=>h x (aL _ hx)
   refine⟨cl,?_,e2,e3,λx hx hf=>?_⟩
   ·simp only[hk',bJ,if_false,pure_bind];exact e1
   ·rcases aI.mp hx with z|z
    ·subst z;exact absurd hf hk
    ·exact e4 x z hf
theorem lI{env:Env}{scope:aH}(h:∀x∈scope.names,x.2=.free->∃c,env.cells.lookup x.1=some c) :
  ∃cl,closureFor scope env=pure cl/\(∀x c,cl.lookup x=some c->env.cells.lookup x=some c)/\∀x∈scope.names,x.2=.free->∃c,cl.lookup x.1=some c:=by
 obtain⟨cl,e1,e2,_,e4⟩:=iU (env:=env) (names:=scope.names) (cs:=[]) h;refine⟨cl,?_,λx c q=>(e2 x c q).elim (λz=>z) (λz=>by simp at z),e4⟩;have e:closureFor scope env=(forIn scope.names [] (λ(x:Str×aG) (cs:List (Str×Addr))=>if (x.2==bu)=true then do let c <-cellOf env x.1;pure (bU ((x.1,c)::cs))else pure (bU cs))>>=λcs=>pure cs):=rfl;rw[e,e1,pure_bind]
theorem gk{env:Env}:∀{names:List (Str×aG)}{x:Str}{k:aG},
  (names.map λ(n,k)=>if (k==bu&&env.scope.kind==.function&&env.kindOf n==some .cell)then (n,aG.cell)else (n,k)).lookup x=some k ->
  names.lookup x=some k\/(k=.cell/\names.lookup x=some .free)
 | [],_,_,h=>by simp at h
 | (n,k')::r,x,k,h=>by
  have ih:=@gk env r x k;have h':List.lookup x ((if (k'==bu&&env.scope.kind==.function&&env.kindOf n==some .cell)=true then (n,aG.cell)else (n,k'))::r.map (λ(n,k)=>if (k==bu&&env.scope.kind==.function&&env.kindOf n==some .cell)then (n,aG.cell)else (n,k)))=some k:=h;cases hx:x==n with
  |true=>
   by_cases hc:(k'==bu&&env.scope.kind==.function&&env.kindOf n==some .cell)=true
   ·rw[if_pos hc]at h';simp only[aV,hx]at h';cases h';have:k'=.free:=by
     have z:(k'==bu)=true:=by
      cases q:(k'==bu)with
      |true=>rfl
      |false=>rw[q]at hc;simp at hc
     simpa using z
    subst this;exact .inr ⟨rfl,by simp[aV,hx]⟩
   ·rw[if_neg hc]at h';simp only[aV,hx]at h';cases h';exact .inl (by simp[aV,hx])
  |false=>
   have h2:(r.map (λ(n,k)=>if (k==bu&&env.scope.kind==.function&&env.kindOf n==some .cell)then (n,aG.cell)else (n,k))).lookup x=some k:=by
    by_cases hc:(k'==bu&&env.scope.kind==.function&&env.kindOf n==some .cell)=true
    ·rw[if_pos hc]at h';simpa only[aV,hx]using h'
    ·rw[if_neg hc]at h';simpa only[aV,hx]using h'
   rcases ih h2 with z|z
   ·exact .inl (by simpa only[aV,hx]using z)
   ·exact .inr ⟨z.1,by simpa only[aV,hx]using z.2⟩
noncomputable def eW(names:List (Str×aG)):List Str:=(names.filter λy=>y.2==.cell).map (·.1)
theorem iT:∀(names:List (Str×aG)) (n:Nat) (a b:List (Str×Addr)),aP n names (a++b)=aP n names a++b
 | [],_,_,_=>rfl
 | (x,k)::r,n,a,b=>by
  unfold aP;split
  ·exact iT r (n+1) ((x,n)::a) b
  ·exact iT r n a b
theorem gz{x:Str}{c:Addr}:∀{names:List (Str×aG)}{n:Nat}{a:List (Str×Addr)},(x,c)∈aP n names a->(x,c)∈a\/(x,aG.cell)∈names
 | [],_,_,h=>.inl h
 | (y,k)::r,n,a,h=>by
  unfold aP at h;split at h
  ·rename_i hk
   rcases gz h with z|z
   ·rcases aI.mp z with q|q
    ·have hk:k=.cell:=by simpa using hk
     cases q;exact .inr (by rw[hk];exact aM)
    ·exact .inl q
   ·exact .inr (aL _ z)
  ·rcases gz h with z|z
   ·exact .inl z
   ·exact .inr (aL _ z)
theorem tI{M:Model}{A:av}{E:ae->af->Prop}{s:af}{scope:aH}{globals:Addr}{cl:List (Str×Addr)}{qual:Str}{env:Env}{Q:Env->af->Prop}
  (hQ:∀h₁,h₁.Ns s.heap.objs.size (λ_=>none)->(∀b o,s.heap.get? b=some o->h₁.get? b=some o)->CellsOk h₁ (s.heap.objs.size+1) (aP (s.heap.objs.size+1) scope.names []) ->
   Q (newEnv scope s.heap.objs.size globals (aP (s.heap.objs.size+1) scope.names []++cl) qual none .none (some env) builtinsNs) {s with heap:=h₁}) :
  ak M A (newFunctionEnv scope globals cl [] qual none .none (some env)) Q E s:=by
 simp only[newFunctionEnv,Option.isSome_some,if_true];refine au (wpAny_alloc ?_);refine au (wpAny_layCells _ (λname kind cells=>by cases hkc:kind==aG.cell<;>simp[hkc]) _ _ _ _ ?_);have ok:=cellsFrom_ok scope.names (s.heap.push {cls:=.type "dict",data:=.dict #[]}) (s.heap.objs.size+1) [] ⟨λ_ _ hm=>(nomatch hm),List.Pairwise.nil⟩ (by rw[Heap.size_push];exact aC _);rw[Heap.size_push]at ok;rw[show ({s with heap:=s.heap.push {cls:=.type "dict",data:=.dict #[]}}:af).heap.objs.size=s.heap.objs.size+1 from Heap.size_push ..];rw[show cl=[]++cl from rfl,iT];rw[List.forIn_nil];exact au (aD (aD (hQ _ ((Heap.Ns.new s.heap (.type "dict")).keeps (pushCells_keeps _ _)) (λb o e=>pushCells_keeps _ _ b o (Heap.get?_push_of_some _ e)) ok)))
noncomputable def zu(X:Cx)(NY:List Str)(scope:aH)(cl:List (Str×Addr))(C:Addr)(s₀:af)(H₀:Hp)(fp:List Addr):Cx where
 prog:=X.prog
 w:=X.w
 K:=X.K
 mg:=X.mg
 base:=X.base
 A:=X.A
 N:=NY
 s₀:=s₀
 H₀:=H₀
 env:=compEnvC scope (aP (C+1) scope.names []++cl) C X.env
 outer:=X.stack
 stack:=X.stack
 ex:=fp
 fn:=λx=>(eW scope.names).contains x
 calm:=X.calm
 pn:=[]
 xe:=λ_ _=>False
noncomputable def caps(cap:List (Option Nat))(σ:St):St:=cap.map λo=>o.bind λj=>(σ[j]?).join
noncomputable def kx(X:Cx)(NY:List Str)(cap:List (Option Nat))(scope:aH):Prop:=
 cap.length=NY.length/\∀(i j:Nat),cap[i]? = some (some j)->∃x,NY[i]? = some x/\X.N[j]? = some x/\scope.names.lookup x=some .free/\(X.env.kindOf x=some .cell\/X.env.kindOf x=some .free)
structure zR(X:Cx)(NY:List Str)(cap:List (Option Nat))(scope:aH):Prop where
 kind:scope.kind=.function
 cells:∀y∈scope.names,y.2=.cell->scope.names.lookup y.1=some .cell
 names:∀y∈scope.names,y.2=.local->scope.names.lookup y.1=some .local
 free:∀y∈scope.names,y.2=.free->X.env.kindOf y.1=some .cell\/X.env.kindOf y.1=some .free
 cap:kx X NY cap scope
theorem wJ{cap:List (Option Nat)}{σ:St}{i:Nat}{v:V}(h:(caps cap σ)[i]? = some (some v)):∃j,cap[i]? = some (some j)/\σ[j]? = some (some v):=by
 unfold caps at h;rw[List.getElem?_map]at h;cases e:cap[i]? with
 |none=>rw[e]at h;simp at h
 |some o=>
  rw[e]at h;cases o with
  |none=>simp at h
  |some j=>
   refine⟨j,rfl,?_⟩;have h':(σ[j]?).join=some v:=by simpa using h
   cases q:σ[j]? with
   |none=>rw[q]at h';cases h'
   |some z=>rw[q]at h';exact congrArg some h'
theorem nh{X:Cx}{pins:List (Addr×Obj)}{σ:St}{H:Hp}{s:af}{NY:List Str}{cap:List (Option Nat)}{scope:aH}{cl:List (Str×Addr)}{fp:List Addr}{h₁:Heap}{m:Str->Option ae}
  (I:Inv X pins σ H s) (S:zR X NY cap scope) (hsub:∀x c,cl.lookup x=some c->X.env.cells.lookup x=some c) (hall:∀x∈scope.names,x.2=.free->∃c,cl.lookup x.1=some c)
  (hf:∀b∈fp,b4 X pins H b) (hlt:∀b∈fp,b<s.heap.objs.size) (hn:h₁.Ns s.heap.objs.size m) (hk:∀b o,s.heap.get? b=some o->h₁.get? b=some o) (hcs:CellsOk h₁ (s.heap.objs.size+1) (aP (s.heap.objs.size+1) scope.names [])) {tk:Nat} :
  Inv (zu X NY scope cl s.heap.objs.size s H fp) [] (caps cap σ) H {s with heap:=h₁,toks:=tk}:=by
 have relx:∀x,(compEnvC scope (aP (s.heap.objs.size+1) scope.names []++cl) s.heap.objs.size X.env).kindOf x=some .cell\/(compEnvC scope (aP (s.heap.objs.size+1) scope.names []++cl) s.heap.objs.size X.env).kindOf x=some .free->scope.names.lookup x=some .free\/scope.names.lookup x=some .cell:=λx hx=>by
  rcases hx with q|q
  ·rcases gk (env:=X.env) (names:=scope.names) (x:=x) (k:=.cell) q with z|z
   ·exact .inr z
   ·exact .inl z.2
  ·rcases gk (env:=X.env) (names:=scope.names) (x:=x) (k:=.free) q with z|z
   ·exact .inl z
   ·exact .inl z.2
 have cnew:∀x c,cl.lookup x=some c->c<s.heap.objs.size:=λx c e=>by
  obtain⟨v,q⟩:=I.cell x c (hsub x c e);exact q.lt
 -- a cell is one of its own, or one from around
 have two:∀x c,(aP (s.heap.objs.size+1) scope.names []++cl).lookup x=some c->(x,c)∈aP (s.heap.objs.size+1) scope.names []\/cl.lookup x=some c:=λx c e=>by
  rw[List.lookup_append]at e;cases q:(aP (s.heap.objs.size+1) scope.names []).lookup x with
  |none=>rw[q]at e;exact .inr e
  |some c'=>rw[q]at e;cases e;exact .inl (bG q)
 have own1:∀x c,(x,c)∈aP (s.heap.objs.size+1) scope.names []->scope.names.lookup x=some .cell:=λx c e=>by
  rcases gz e with z|z
  ·cases z
  ·exact S.cells _ z rfl
 have ownA:∀x c,(x,c)∈aP (s.heap.objs.size+1) scope.names []->s.heap.objs.size<c:=λx c e=>(hcs.empty x c e).2
 have frl:∀x c,scope.names.lookup x=some .free->cl.lookup x=some c->(aP (s.heap.objs.size+1) scope.names []++cl).lookup x=some c:=λx c e1 e2=>by
  rw[List.lookup_append];cases q:(aP (s.heap.objs.size+1) scope.names []).lookup x with
  |none=>rw[e2];rfl
  |some c'=>have:=own1 x c' (bG q);rw[e1]at this;cases this
 refine⟨⟨I.ok.mod,S.kind,I.ok.glob,I.ok.blt,aC _,λx y c e1 e2=>?_,λx hx=>?_,λx c e e2=>?_,I.ok.hd,I.ok.frames,.inl rfl,λb hb=>?_,λb o e=>I.bs b o e,aS I.ok.bsz I.sz,λb o e hb=>?_,λb hb z=>?_,I.stack,I.stkFree⟩,
  rfl,I.bare,Un.kept hk,⟨m,hn,λi x v e1 e2 e3=>?_⟩,λx c e=>?_,I.hok.fresh (aC _),λx c e=>?_,λp hp=>absurd (show p∈([]:List (Addr×Obj))from hp) (by simp),I.hok.kept hk,?_⟩
 ·rcases two x c e1 with z1|z1<;>rcases two y c e2 with z2|z2
  ·exact name_of_addr hcs.apart z1 z2
  ·exact absurd (Nat.lt_trans (cnew y c z2) (ownA x c z1)) (bp _)
  ·exact absurd (Nat.lt_trans (cnew x c z1) (ownA y c z2)) (bp _)
  ·exact I.ok.inj x y c (hsub x c z1) (hsub y c z2)
 ·rcases relx x hx with z|z
  ·obtain⟨c,hc⟩:=hall (x,.free) (bG z) rfl;exact⟨c,frl x c z hc⟩
  ·obtain⟨c,hc⟩:=fG (n:=s.heap.objs.size+1) z;refine⟨c,?_⟩;show (aP (s.heap.objs.size+1) scope.names []++cl).lookup x=some c;rw[List.lookup_append,hc];rfl
 ·have e:(eW scope.names).contains x=true:=e;have hm:scope.names.lookup x=some .cell:=by
   simp only[eW,List.contains_iff_mem,aQ,List.mem_filter,beq_iff_eq]at e;obtain⟨y,⟨y1,y2⟩,rfl⟩:=e;exact S.cells y y1 y2
  rcases two x c e2 with z|z
  ·exact Nat.le_of_lt (ownA x c z)
  ·obtain⟨c',hc⟩:=fG (n:=s.heap.objs.size+1) hm;have e2:(aP (s.heap.objs.size+1) scope.names []++cl).lookup x=some c:=e2;rw[List.lookup_append,hc]at e2;cases e2;exact Nat.le_of_lt (ownA x _ (bG hc))
 ·obtain⟨f0,f1,f2,f3,f4,f5⟩:=hf b hb;refine⟨aU (hlt b hb),λx c e=>?_⟩;rcases two x c e with z|z
  ·exact λw=>absurd (Nat.lt_trans (ownA x c z) (w▸hlt b hb)) (bp _)
  ·exact f4 x c (hsub x c z)
 ·obtain⟨f0,f1,f2,f3,f4,f5⟩:=hf b hb;rcases f3 with z|z
  ·exact I.ok.noex b o e z
  ·exact absurd (aX (aE e) (aS I.ok.bsz z)) (bp _)
 ·obtain⟨f0,f1,f2,f3,f4,f5⟩:=hf b hb;rcases aI.mp (I.stkSub b z)with q|q
  ·exact f1 q
  ·exact f2 q
 ·obtain⟨j,c1,c2⟩:=wJ e2;obtain⟨x',n1,n2,n3,n4⟩:=S.cap.2 i j c1;have ex:x'=x:=br (n1.symm.trans e1);subst ex;obtain⟨m',_,hl⟩:=I.loc;obtain⟨u,r,l⟩:=hl j x' v n2 c2 (n4.elim (λz=>.inr (.inl z)) λz=>.inr (.inr z));refine⟨u,r,.inr ⟨?_,?_⟩⟩
  ·rcases e3 with z|z|z
   ·rcases gk (env:=X.env) (names:=scope.names) (x:=x') (k:=.local) z with q|q
    ·rw[n3]at q;cases q
    ·cases q.1
   ·exact .inl z
   ·exact .inr z
  ·rcases l with ⟨kk,_⟩|⟨_,c,ec,ic⟩
   ·rcases n4 with z|z
    ·rw[kk]at z;cases z
    ·rw[kk]at z;cases z
   ·obtain⟨c',ec'⟩:=hall (x',.free) (bG n3) rfl;have:=hsub x' c' ec';rw[ec]at this;cases this;obtain⟨o,ho,hd⟩:=ic;exact⟨c,frl x' c n3 ec',o,hk _ _ ho,hd⟩
 ·rcases two x c e with z|z
  ·exact⟨_,(hcs.empty x c z).1⟩
  ·obtain⟨v,o,ho,hd⟩:=I.cell x c (hsub x c z);exact⟨v,o,hk _ _ ho,hd⟩
 ·rcases two x c e with z|z
  ·exact I.hok.fresh (Nat.le_of_lt (ownA x c z))
  ·exact I.freeC x c (hsub x c z)
 ·show (caps cap σ).length=NY.length;unfold caps;rw[bK];exact S.cap.1
noncomputable def iF(cap:List (Option Nat))(wi:TI)(tg:TG)(tt:TT)(tb:Addr->TS):TE:=λσ H Q=>wi σ H λJ H1=>∀acc,H1 acc=none ->
 ∃W:Nat->Nat->St->Hp->Prop,(∃m,W 0 m (caps cap σ) (upd H1 acc (.lst [])))/\∀i m τ H,W i m τ H ->
  (J.stop i H/\(Ends.mk (λ_ H=>Q (.ref acc) H) (λ_ _=>False) (λ_ _=>False) (λ_ _=>False)).nx τ H)\/(J.go i H/\∃N:St->Hp->Prop,(∀σ' H',N σ' H'->∃m',m'<m/\W (i+1) m' σ' H')/\∀x H',J.yld i H x H' ->
   tg x τ H' λσ2 H2=>fZ tt (tb acc) eV {(Ends.mk (λ_ H=>Q (.ref acc) H) (λ_ _=>False) (λ_ _=>False) (λ_ _=>False))with nx:=N,ct:=N,bk:=(Ends.mk (λ_ H=>Q (.ref acc) H) (λ_ _=>False) (λ_ _=>False) (λ_ _=>False)).nx} σ2 H2)
structure Loose(X:Cx)(pins:List (Addr×Obj))(C:Addr):Prop where
 loc:C≠X.env.locals
 cell:∀x c,X.env.cells.lookup x=some c->c≠C
 up:X.s₀.heap.objs.size<=C
 pin:∀p∈X.pn++pins,p.1≠C
theorem Loose.turn{X:Cx}{pins:List (Addr×Obj)}{C:Addr}{σ:St}{H:Hp}{s:af}{h':Heap}(L:Loose X pins C)(I:Inv X pins σ H s)(hn:H C=none)(hs:Heap.SameBut C s.heap h'):Inv X pins σ H {s with heap:=h'}:=
 I.turned (t':=s.toks) (it:=C) (λb o hb e=>(hs.2 b hb).trans e) hn L.loc (.inr L.up) L.cell L.pin
section
variable{X:Cx}{elt tgt it:Expr}{ifs:List Expr}{gs:List bI}{scope:aH}{pos:Pos}{NY:List Str}{cap:List (Option Nat)}{wi:TI}{tg:TG}{tt:TT}{tb:Addr->TS}
theorem jY{Q:VK}{pins:List (Addr×Obj)}{σ:St}{H:Hp}{s s2:af}{cl:List (Str×Addr)}{itv:ae}{E:ae->af->Prop}{use:Option (ae->Sem Unit)}{QQ:ae->af->Prop}
  (hc:X.calm=true) (S:zR X NY cap scope) (hng:∀g'∈gs,g'.is_async=0)
  (hsub:∀x c,cl.lookup x=some c->X.env.cells.lookup x=some c) (hall:∀x∈scope.names,x.2=.free->∃c,cl.lookup x.1=some c)
  (hb:∀cl C s₀ H₀ fp,PG (zu X NY scope cl C s₀ H₀ fp) tgt tg/\PTs (zu X NY scope cl C s₀ H₀ fp) ifs tt/\∀acc,PB (zu X NY scope cl C s₀ H₀ fp) (cW elt (⟨tgt,it,ifs,0⟩::gs) scope pos 0 (.ref acc) (zu X NY scope cl C s₀ H₀ fp).env) (tb acc))
  (h2:PIE X pins σ tgt (λJ H1=>∀acc,H1 acc=none ->
   ∃W:Nat->Nat->St->Hp->Prop,(∃m,W 0 m (caps cap σ) (upd H1 acc (.lst [])))/\∀i m τ H,W i m τ H ->
    (J.stop i H/\(Ends.mk (λ_ H=>Q (.ref acc) H) (λ_ _=>False) (λ_ _=>False) (λ_ _=>False)).nx τ H)\/(J.go i H/\∃N:St->Hp->Prop,(∀σ' H',N σ' H'->∃m',m'<m/\W (i+1) m' σ' H')/\∀x H',J.yld i H x H' ->
     tg x τ H' λσ2 H2=>fZ tt (tb acc) eV {(Ends.mk (λ_ H=>Q (.ref acc) H) (λ_ _=>False) (λ_ _=>False) (λ_ _=>False))with nx:=N,ct:=N,bk:=(Ends.mk (λ_ H=>Q (.ref acc) H) (λ_ _=>False) (λ_ _=>False) (λ_ _=>False)).nx} σ2 H2)) itv s2)
  (fin:∀(acc C:Addr) (s':af) (m:Str->Option ae) (H':Hp),s'.heap.Ns C m->Loose X pins C->Inv X pins σ H' s'->H' C=none->Q (.ref acc) H'->compPost (ao X.prog X.w) X.A E use QQ (.ref acc) C (.ok .next) s') :
  ak (ao X.prog X.w) X.A (newList []) (λacc s₃=>ak (ao X.prog X.w) X.A (newFunctionEnv scope X.env.globals cl [] X.env.qual none .none (some X.env)) (λcenv s₄=>
   codeAny (ao X.prog X.w) X.A (.compStart (.ListComp elt (⟨tgt,it,ifs,0⟩::gs) scope pos) 0 itv acc {cenv with scope:=relabel scope X.env}) (compPost (ao X.prog X.w) X.A E use QQ acc cenv.locals) s₄) E s₃) E s2:=by
 obtain⟨ia,fp,tn,J,H2,e,I2,T,st2,f2,q⟩:=h2;subst e;have hlt2:∀b∈fp,b<s2.heap.objs.size:=λb hb=>by
  obtain⟨o,ho,_⟩:=T.obj _ _ st2 b hb;exact aE ho
 refine b9 ?_;have hacc:H2 s2.heap.objs.size=none:=I2.hok.fresh (aC _);have I3:Inv X pins σ (upd H2 s2.heap.objs.size (.lst [])) {s2 with heap:=s2.heap.push {cls:=.type "list",dict:=none,data:=.seq ([]:List ae).toArray}}:=
  I2.laid (t':=s2.toks) (λb u e=>Heap.get?_push_of_some _ e) (aC _) ⟨Nat.zero_le _,[],0,.nil,Heap.get?_push_size _ rfl⟩
 have hsz3:(s2.heap.push {cls:=.type "list",dict:=none,data:=.seq ([]:List ae).toArray}).objs.size=s2.heap.objs.size+1:=Heap.size_push ..;generalize hs3:({s2 with heap:=s2.heap.push {cls:=.type "list",dict:=none,data:=.seq ([]:List ae).toArray}}:af)=s3 at I3 ⊢;have hsz:s3.heap.objs.size=s2.heap.objs.size+1:=by rw[<-hs3];exact hsz3
 have st3:tn 0 s3.heap:=T.keep _ _ _ st2 λb hb o e=>by rw[<-hs3];exact Heap.get?_push_of_some _ e
 have f3:∀b∈fp,b4 X pins (upd H2 s2.heap.objs.size (.lst [])) b:=λb hb=>⟨by rw[qg (aU (hlt2 b hb))];exact(f2 b hb).1,(f2 b hb).2⟩
 have hlt3:∀b∈fp,b<s3.heap.objs.size:=λb hb=>by rw[hsz];exact Nat.lt_succ_of_lt (hlt2 b hb)
 refine tI λh₁ hns₁ hk1 hcs=>?_
 have IY:=nh (tk:=s3.toks) I3 S hsub hall f3 hlt3 hns₁ hk1 hcs;have stY:tn 0 h₁:=T.keep _ _ _ st3 λb hb o e=>hk1 b o e
 obtain⟨pg,pt,pb⟩:=hb cl s3.heap.objs.size s3 (upd H2 s2.heap.objs.size (.lst [])) fp;have fY:∀b∈fp,b4 (zu X NY scope cl s3.heap.objs.size s3 (upd H2 s2.heap.objs.size (.lst [])) fp) [] (upd H2 s2.heap.objs.size (.lst [])) b:=λb hb=>by
  obtain⟨g0,g1,g2,g3,g4,g5⟩:=f3 b hb;refine⟨g0,aU (hlt3 b hb),λz=>?_,.inl hb,(IY.ok.exf b hb).2,λp hp=>absurd (show p∈([]:List (Addr×Obj))from hp) (by simp)⟩;rcases aI.mp (I3.stkSub b z)with w|w
  ·exact g1 w
  ·exact g2 w
 have L:=wM (elt:=elt) (gens:=⟨tgt,it,ifs,0⟩::gs) (scope:=scope) (pos:=pos) (d:=0) (Y:=zu X NY scope cl s3.heap.objs.size s3 (upd H2 s2.heap.objs.size (.lst [])) fp) (acc:=.ref s2.heap.objs.size) hc (λ_ _ z=>z) rfl rfl
  (λg' hg'=>hng g' (List.mem_of_getElem? (i:=0) (by simpa using hg'))) T pg pt (pb s2.heap.objs.size) IY stY fY (q s2.heap.objs.size hacc)
 refine codeAny_mono (m7 (elt:=elt) (gens:=⟨tgt,it,ifs,0⟩::gs) (scope:=scope) (pos:=pos) (d:=0) (env:=compEnvC scope (aP (s3.heap.objs.size+1) scope.names []++cl) s3.heap.objs.size X.env) rfl rfl L (T.self _ 0 _ _ _ stY L)) λr s' ⟨e,τ',H',I',q'⟩=>?_
 subst e;obtain⟨m',hn',_⟩:=id I'.loc;have hLne:s3.heap.objs.size≠X.env.locals:=Nat.ne_of_gt I3.lt;have hCne:∀x c,X.env.cells.lookup x=some c->c≠s3.heap.objs.size:=λx c e z=>by
  obtain⟨v,qv⟩:=I3.cell x c e;exact absurd qv.lt (by rw[z];exact bp _)
 have J1:Inv X pins σ H' s':=by
  refine I3.call' (ch:=fp) I'.os I'.base I'.hok I'.bare λb hb=>?_
  obtain⟨g0,g1,g2,g3,g4,g5⟩:=f3 b hb;exact⟨g3,g1,g4,g5⟩
 refine fin s2.heap.objs.size s3.heap.objs.size s' m' H' hn' ⟨hLne,hCne,I3.sz,λp hp z=>?_⟩ J1 I'.free q';have:=aE (I3.pin p hp).1;rw[z]at this;exact bp _ this
theorem nU(hc:X.calm=true)(S:zR X NY cap scope)(hi:PI X tgt it wi)
  (hb:∀cl C s₀ H₀ fp,PG (zu X NY scope cl C s₀ H₀ fp) tgt tg/\PTs (zu X NY scope cl C s₀ H₀ fp) ifs tt/\∀acc,PB (zu X NY scope cl C s₀ H₀ fp) (cW elt (⟨tgt,it,ifs,0⟩::gs) scope pos 0 (.ref acc) (zu X NY scope cl C s₀ H₀ fp).env) (tb acc))
  (hng:∀g'∈gs,g'.is_async=0:=by simp)
  (hs:∀x,foldedSetIterable it X.env x=pure x:=by intro _;rfl):PE X (.ListComp elt (⟨tgt,it,ifs,0⟩::gs) scope pos) (iF cap wi tg tt tb):=by
 intro pins s σ H Q I h;obtain⟨cl,hcl,hsub,hall⟩:=lI (env:=X.env) (scope:=scope) λx hx hf=>I.ok.has x.1 (S.free x hx hf)
 rw[eval_ListComp];refine wpAny_comprehension_free (use:=none) rfl hs hcl S.kind S.names (thn (hi pins s σ H _ I h) λv s1 h1=>thn h1 λitv s2 h2=>?_);exact jY (s:=s) (H:=H) (use:=none) hc S hng hsub hall hb h2 λacc C s' m H' hn L I' hC q=>⟨m,hn,λh' hs'=>⟨.ref acc,H',L.turn I' hC hs',rfl,q⟩⟩
theorem nL{i:Nat}{x:Str}{pos' spos:Pos}(hN:X.N.Nodup)(hix:X.N[i]? = some x)(hx:Loc X.env.scope x)(hc:X.calm=true)(S:zR X NY cap scope)(hi:PI X tgt it wi)
  (hb:∀cl C s₀ H₀ fp,PG (zu X NY scope cl C s₀ H₀ fp) tgt tg/\PTs (zu X NY scope cl C s₀ H₀ fp) ifs tt/\∀acc,PB (zu X NY scope cl C s₀ H₀ fp) (cW elt (⟨tgt,it,ifs,0⟩::gs) scope pos 0 (.ref acc) (zu X NY scope cl C s₀ H₀ fp).env) (tb acc))
  (hng:∀g'∈gs,g'.is_async=0:=by simp)
  (hsw:swapsWith (.ListComp elt (⟨tgt,it,ifs,0⟩::gs) scope pos) (some (.Name x pos')) spos.line X.env=pure true:=by rfl)
  (hf:X.fn x=true\/X.env.scope.names.lookup x=some .local:=by first|exact .inl rfl|exact .inr rfl|assumption)
  (hs:∀x,foldedSetIterable it X.env x=pure x:=by intro _;rfl) :
  PS X (.Assign [.Name x pos'] (.ListComp elt (⟨tgt,it,ifs,0⟩::gs) scope pos) spos) (gv (iF cap wi tg tt tb) (dg i)):=by
 intro pins s σ H D I h;obtain⟨cl,hcl,hsub,hall⟩:=lI (env:=X.env) (scope:=scope) λx hx hf=>I.ok.has x.1 (S.free x hx hf)
 rw[exec_Assign_Name_used _ _ _ _ hsw];refine au (wpAny_standAt (au ?_));show ak _ _ (do let _ <-comprehension (.ListComp elt (⟨tgt,it,ifs,0⟩::gs) scope pos) scope X.env _ (newList []) false (eval it X.env) (some (assign (.Name x pos') X.env))) _ _ s;refine au (bq (wpAny_comprehension_free (use:=some (assign (.Name x pos') X.env)) (Q:=λ_ s'=>SP X pins D .next s') rfl hs hcl S.kind S.names (thn (hi pins s σ H _ I h) λv s1 h1=>thn h1 λitv s2 h2=>?_)) (λ_ s' q=>aD (aD q)) λ_ _ e=>e);refine jY (s:=s) (H:=H) (Q:=λx H1=>dg i x σ H1 D.nx) (use:=some (assign (.Name x pos') X.env)) hc S hng hsub hall hb h2 λacc C s' m H' hn L I1 hC q1=>?_
 show ak _ _ (assign (.Name x pos') X.env (.ref acc)) _ _ _;refine wpAny_assign_Name (jt (v:=.ref acc) I1 hN hix hx rfl (λs3 I3 ⟨a,hsa,ha⟩=>?_) hf);have hCa:C≠a:=by
  rcases ha with z|z
  ·rw[z];exact L.loc
  ·exact Ne.symm (L.cell x a z)
 exact⟨m,hn.sameBut hsa hCa,λh' hsb=>⟨_,H',L.turn I3 hC hsb,q1⟩⟩
end
theorem zy.there{P:aw}{w:ar}{H:Hp}{h:Heap}{a:Addr}{o:HO}(x:zy P w H h a o):∃u,h.get? a=some u:=by
 cases o with
 |lst xs=>obtain⟨_,_,_,_,e⟩:=x;exact⟨_,e⟩
 |tup xs=>obtain⟨_,_,_,o,e,_⟩:=x;exact⟨_,e⟩
 |dK kvs=>obtain⟨_,_,_,_,o,_,_,e,_⟩:=x;exact⟨_,e⟩
 |dT kvs=>obtain⟨_,_,_,_,o,_,_,e,_⟩:=x;exact⟨_,e⟩
 |set S n=>obtain⟨o,_,_,_,e,_⟩:=x;exact⟨_,e⟩
 |ins C dx fs=>obtain⟨_,_,_,e,_⟩:=x;exact⟨_,e⟩
 |own y=>obtain⟨_,e⟩:=x;exact⟨_,e⟩
 |xd fs=>obtain⟨_,⟨_,_,_,e,_⟩,_⟩:=x;exact⟨_,e⟩
 |rng lo hi=>obtain⟨_,_,_,e⟩:=x;exact⟨_,e⟩
 |frz ob u=>obtain⟨e,_⟩:=x;exact⟨_,e⟩
 |tbl ps=>exact⟨_,(show h.get? a=some _ from x)⟩
 |met f y=>exact⟨_,(show h.get? a=some _ from x)⟩
 |ext φ=>obtain⟨_,e,_⟩:=x;exact e
theorem HOk.free_of{P:aw}{w:ar}{H:Hp}{h:Heap}{a:Addr}(x:HOk P w H h)(e:h.get? a=none):H a=none:=by
 cases q:H a with
 |none=>rfl
 |some o=>obtain⟨u,z⟩:=(x a o q).there;rw[e]at z;cases z
structure Apart(X:Cx)(pins:List (Addr×Obj))(H:Hp)(b:Addr):Prop where
 new:X.s₀.heap.get? b=none
 free:H b=none
 pin:∀p∈X.pn++pins,p.1≠b
structure bA(X:Cx)(pins:List (Addr×Obj))(H:Hp)(h:Heap)(x:Addr)(cls:ae):Prop where
 me:Apart X pins H x
 tr:∃oe vs T oT ts a0,h.get? x=some oe/\oe.cls=cls/\vs[0]? = some a0/\oe.data=.fields vs/\vs[1]? = some (.ref T)/\T≠x/\h.get? T=some oT/\oT.data=.fields ts/\ts[3]? = some .none/\Apart X pins H T
structure Fly(h₀ h:Heap)(H:Hp)(x:Addr)(cls:ae):Prop where
 new:h₀.get? x=none
 free:H x=none
 tr:∃oe vs T oT ts a0,h.get? x=some oe/\oe.cls=cls/\vs[0]? = some a0/\oe.data=.fields vs/\vs[1]? = some (.ref T)/\T≠x/\h.get? T=some oT/\oT.data=.fields ts/\ts[3]? = some .none/\h₀.get? T=none/\H T=none
noncomputable def CX1(P:aw)(w:ar):CXT:=λouter H s E e s'=>
 ∃x cls H',e=.ref x/\s'.os=s.os/\AllBare s'.gens/\Un (frs outer) [] H H' s.heap s'.heap/\HOk P w H' s'.heap/\Fly s.heap s'.heap H' x cls/\E cls none H'
section
variable{X:Cx}{pins:List (Addr×Obj)}{σ:St}{H:Hp}{s:af}{x T:Addr}{cls:ae}
theorem Inv.stepN{h':Heap}{t':Nat}{ch:List Addr}(I:Inv X pins σ H s)(hex:X.ex=[])(hch:∀b∈ch,Apart X pins H b/\b≠X.env.locals/\(∀x c,X.env.cells.lookup x=some c->c≠b)/\b∉X.fs)
  (keep:∀b o,b∉frs X.stack->b≠X.env.locals->b∉X.fs->b∉ch->s.heap.get? b=some o->h'.get? b=some o)
  (slot:∀b o,(b∈frs X.stack\/b=X.env.locals\/b∈X.fs)->s.heap.get? b=some o->∃sl,h'.get? b=some {o with slots:=sl}) (there:∀b o,b∉ch->s.heap.get? b=some o->∃o',h'.get? b=some o') :
  Inv X pins σ H {s with heap:=h',toks:=t'}:=by
 have sub:∀b,b∈frs X.stack->b=X.env.locals\/b∈X.fs:=λb hb=>aI.mp (I.stkSub b hb)
 have keep':∀b o,b≠X.env.locals->b∉X.fs->b∉ch->s.heap.get? b=some o->h'.get? b=some o:=λb o h1 h2 h3 e=>keep b o (λz=>(sub b z).elim h1 h2) h1 h2 h3 e
 have neL:∀b o,X.s₀.heap.get? b=some o->b≠X.env.locals:=λb o e=>aU (aX (aE e) I.ok.above)
 have neC:∀b o,X.s₀.heap.get? b=some o->b∉ch:=λb o e hb=>by
  have:=(hch b hb).1.new;rw[e]at this;cases this
 have cellK:∀x c,X.env.cells.lookup x=some c->∀v,s.heap.IsCell c v->h'.IsCell c v:=λx c e v ⟨o,ho,hd⟩=>by
  have nch:c∉ch:=λz=>(hch c z).2.2.1 x c e rfl
  by_cases hc:c∈X.fs
  ·obtain⟨sl,q⟩:=slot c o (.inr (.inr hc)) ho;exact⟨_,q,hd⟩
  ·exact⟨o,keep' c o (I.cne x c e) hc nch ho,hd⟩
 have nex:∀b,b∉X.ex:=λb=>by rw[hex];simp
 refine⟨I.ok,I.os,I.bare,⟨λb o e n hb hx=>?_,λb o e n hb hx=>?_,I.base.free,λb o e hx=>?_,I.base.tups,I.base.frzs,I.base.tbls⟩,?_,λx c e=>?_,I.free,I.freeC,λp hp=>?_,λb u e=>?_,I.len⟩
 ·exact keep' b o (neL b o e) hb (neC b o e) (I.base.keep b o e n hb hx)
 ·obtain⟨sl,e1⟩:=I.base.slot b o e n hb hx;obtain⟨sl',e2⟩:=slot b _ (.inr (.inr hb)) e1;exact⟨sl',e2⟩
 ·obtain⟨o',e1⟩:=I.base.there b o e hx;exact there b o' (neC b o e) e1
 ·obtain⟨m,hn,hl⟩:=I.loc;obtain⟨oL,es,ep,hoL,hdL,r⟩:=id hn;obtain⟨sl,eL⟩:=slot _ _ (.inr (.inl rfl)) hoL;refine⟨m,⟨_,es,ep,eL,hdL,r⟩,λi x v e1 e2 e3=>?_⟩;obtain⟨u,ru,l⟩:=hl i x v e1 e2 e3;refine⟨u,ru,?_⟩;rcases l with l|⟨k,c,e,z⟩
  ·exact .inl l
  ·exact .inr ⟨k,c,e,cellK x c e _ z⟩
 ·obtain⟨v,z⟩:=I.cell x c e;exact⟨v,cellK x c e v z⟩
 ·obtain⟨e,n,ne,nf,d⟩:=I.pin p hp;exact⟨keep' p.1 p.2 ne nf (λz=>(hch p.1 z).1.pin p hp rfl) e,n,ne,nf,d⟩
 ·have nfr:∀b,(∃u,H b=some u)->b≠X.env.locals/\b∉X.fs/\b∉ch:=λb ⟨u,e⟩=>by
   refine⟨λz=>?_,λz=>?_,λz=>?_⟩
   ·rw[z,I.free]at e;cases e
   ·obtain⟨_,o,ho,_⟩:=I.ok.funs.mem z;have:=I.base.free b o ho (I.ok.frf b z) (nex b);rw[e]at this;cases this
   ·have:=(hch b z).1.free;rw[e]at this;cases this
  refine(I.hok b u e).stay (λc v hc q=>?_) (λ_ q=>q) λ_ _ q=>q
  have hc':∃u,H c=some u:=by
   rcases hc with z|z
   ·exact⟨u,by rw[z];exact e⟩
   ·exact⟨_,z⟩
  obtain⟨n1,n2,n3⟩:=nfr c hc';exact keep' c v n1 n2 n3 q
theorem Inv.rec_ne(I:Inv X pins σ H s){b:Addr}{o:Obj}{vs:Array ae}(e:s.heap.get? b=some o)(d:o.data=.fields vs):b≠X.env.locals/\(∀x c,X.env.cells.lookup x=some c->c≠b)/\b∉X.fs/\b∉frs X.stack:=by
 have h1:b≠X.env.locals:=λz=>by
  obtain⟨m,⟨o',es,ep,ho,hd,_⟩,_⟩:=I.loc;rw[<-z,e]at ho;cases ho;rw[d]at hd;cases hd
 have h3:b∉X.fs:=λz=>by
  obtain⟨_,o',ho,hn⟩:=I.funs.mem z;rw[e]at ho;cases ho;exact hn vs d
 refine⟨h1,λx c ec z=>?_,h3,λz=>(aI.mp (I.stkSub b z)).elim h1 h3⟩;obtain⟨v,o',ho,hd⟩:=I.cell x c ec;rw[z,e]at ho;cases ho;rw[d]at hd;cases hd
theorem bA.flying(I:Inv X pins σ H s)(F:bA X pins H s.heap x cls):∃T oT ts a0,Heap.FlyingW (PySem.W.hideAll s.heap (x::T::frs X.stack)) X.stack x cls a0 s.heap/\s.heap.get? T=some oT/\oT.data=.fields ts/\Apart X pins H T:=by
 obtain⟨oe,vs,T,oT,ts,a0,e1,e2,e3,e4,e5,e6,e7,e8,e9,e10⟩:=F.tr;refine⟨T,oT,ts,a0,⟨λb o q=>PySem.W.of_hideAll _ q,PySem.W.hideAll_none _ aM,?_,oe,vs,T,oT,ts,e1,⟨e2,e3⟩,e4,e5,PySem.W.hideAll_none _ (aL _ aM),e6,e7,e8,e9⟩,e7,e8,e10⟩;exact PySem.W.funFrames_hide I.stack λenv he a ha=>aL _ (aL _ (List.mem_filterMap.mpr ⟨env,he,ha⟩))
theorem bA.back(I:Inv X pins σ H s)(hex:X.ex=[])(me:Apart X pins H x){ox:Obj}{vs:Array ae}(hx:s.heap.get? x=some ox)(hxd:ox.data=.fields vs){oT:Obj}{ts:Array ae}(hT:s.heap.get? T=some oT)(hTd:oT.data=.fields ts)(aT:Apart X pins H T)
  {l:List Env}{a0:ae}{h':Heap} (W:Heap.FlyingW (PySem.W.hideAll s.heap (x::T::frs X.stack)) l x cls a0 h') (u:s.heap.UpToSlots h') :
  Inv X pins σ H {s with heap:=h'}/\bA X pins H h' x cls:=by
 obtain⟨w1,w2,w3,oe',vs',T',oT',ts',f1,⟨f2,f3⟩,f4,f5,f6,f7,f8,f9,f10⟩:=W;obtain⟨nx1,nx2,nx3,nx4⟩:=I.rec_ne hx hxd;obtain⟨nt1,nt2,nt3,nt4⟩:=I.rec_ne hT hTd;have frd:∀b o,(b∈frs X.stack\/b=X.env.locals\/b∈X.fs)->s.heap.get? b=some o->∀ws,o.data≠.fields ws:=λb o hb e ws d=>by
  obtain⟨n1,n2,n3,n4⟩:=I.rec_ne e d;rcases hb with z|z|z
  ·exact n4 z
  ·exact n1 z
  ·exact n3 z
 have nch:∀b,b∉[x,T]->b∉frs X.stack->b∉(x::T::frs X.stack):=λb h1 h2 h3=>by
  rcases aI.mp h3 with z|h3
  ·exact h1 (by simp[z])
  ·rcases aI.mp h3 with z|h3
   ·exact h1 (by simp[z])
   ·exact h2 h3
 refine⟨?_,me,oe',vs',T',oT',ts',a0,f1,f2,f3,f4,f5,f7,f8,f9,f10,?_⟩
 ·refine I.stepN (t':=s.toks) (ch:=[x,T]) hex (λb hb=>?_) (λb o h1 h2 h3 h4 e=>w1 b o (b7 _ e (nch b h4 h1))) (λb o hb e=>u b o e (frd b o hb e)) λb o h4 e=>?_
  ·rcases aI.mp hb with z|hb
   ·subst z;exact⟨me,nx1,nx2,nx3⟩
   ·have z:b=T:=by simpa using hb
    subst z;exact⟨aT,nt1,nt2,nt3⟩
  ·by_cases hb:b∈frs X.stack
   ·obtain⟨sl,q⟩:=u b o e (frd b o (.inl hb) e);exact⟨_,q⟩
   ·exact⟨o,w1 b o (b7 _ e (nch b h4 hb))⟩
 ·by_cases hTT:T'=T
  ·rw[hTT];exact aT
  ·by_cases hTf:T'∈frs X.stack
   ·obtain⟨_,o,ho,hn⟩:=I.stack.mem hTf;obtain⟨sl,q⟩:=u T' o ho hn;rw[q]at f8;have z:({o with slots:=sl}:Obj)=oT':=br f8;subst z;exact absurd f9 (hn ts')
   ·have hnone:s.heap.get? T'=none:=by
     cases q:s.heap.get? T' with
     |none=>rfl
     |some o=>
      have:(PySem.W.hideAll s.heap (x::T::frs X.stack)).get? T'=some o:=b7 _ q (nch T' (by simp[f7,hTT]) hTf);rw[f6]at this;cases this
    refine⟨?_,I.hok.free_of hnone,λp hp z=>?_⟩
    ·cases q:X.s₀.heap.get? T' with
     |none=>rfl
     |some o=>
      obtain⟨o',e'⟩:=I.base.there T' o q (by rw[hex];simp);rw[hnone]at e';cases e'
    ·have:=(I.pin p hp).1;rw[z,hnone]at this;cases this
theorem fV{P:aw}{w:ar}(hP:X.prog=P)(hw:X.w=w)(I:Inv X pins σ H s)(hex:X.ex=[]){E:XK}{e:ae}{s':af}(h:CX1 P w X.stack H s E e s') :
  ∃x cls H',e=.ref x/\Inv X pins σ H' s'/\bA X pins H' s'.heap x cls/\E cls none H':=by
 subst hP hw;obtain⟨x,cls,H',rfl,os,bare,un,hok,F,q⟩:=h;have ap:∀b,s.heap.get? b=none->H' b=none->Apart X pins H' b:=λb h1 h2=>by
  refine⟨?_,h2,λp hp z=>?_⟩
  ·cases q:X.s₀.heap.get? b with
   |none=>rfl
   |some o=>
    obtain⟨o',e'⟩:=I.base.there b o q (by rw[hex];simp);rw[h1]at e';cases e'
  ·have:=(I.pin p hp).1;rw[z,h1]at this;cases this
 obtain⟨oe,vs,T,oT,ts,a0,e1,e2,e3,e4,e5,e6,e7,e8,e9,e10,e11⟩:=F.tr;exact⟨x,cls,H',rfl,I.call' (ch:=[]) os un hok bare (λb z=>absurd z (by simp)),⟨ap x F.new F.free,oe,vs,T,oT,ts,a0,e1,e2,e3,e4,e5,e6,e7,e8,e9,ap T e10 e11⟩,q⟩
theorem bA.leaves(I:Inv X pins σ H s)(hex:X.ex=[]){env:Env}{outer:List Env}(hst:X.stack=X.env::X.outer)(hfr:X.env.frame=some X.env.locals)(F:bA X pins H s.heap x cls){E:XK}(q:E cls none H)
  {EE:ae->af->Prop}:ak (ao X.prog X.w) X.A (leaving X.env (.ref x)) (λ_ s''=>CX1 X.prog X.w X.outer X.H₀ X.s₀ E (.ref x) s'') EE s:=by
 obtain⟨oe,vs,_,_,_,_,e1,_,_,e4,_⟩:=id F.tr;obtain⟨T,oT,ts,a0,W,hT,hTd,aT⟩:=bA.flying I F;have hfrm:=I.ok.frames;rw[hst]at hfrm W;refine wpAny_leaves_onW hfrm hfr W λh' W' u=>?_
 rw[<-hst]at W';obtain⟨I',F'⟩:=bA.back I hex F.me e1 e4 hT hTd aT W' u;obtain⟨oe',vs',T',oT',ts',a0',f1,f2,f3,f4,f5,f6,f7,f8,f9,f10⟩:=F'.tr;have hb:=I'.base;rw[hex]at hb;exact⟨x,cls,H,rfl,I'.os,I'.bare,hb,I'.hok,⟨F'.me.new,F'.me.free,oe',vs',T',oT',ts',a0',f1,f2,f3,f4,f5,f6,f7,f8,f9,f10.new,f10.free⟩,q⟩
end
section
variable{P:aw}{w:ar}{K:aq}{mg:Str->Option ae}{base:Heap}{N:List Str}{qual:Str}{scope:aH}{f:Addr}{cd:ae}{A:av}{outer:List Env}{s₀:af}{H₀:Hp}{E:XK}
theorem rS:Passes (CX1 P w) (cf (CX1 P w) P w K mg base N qual scope f cd A outer s₀ H₀ E) E:=by
 intro pins σ H s e s' I h;obtain⟨x,cls,H',rfl,I',F,q⟩:=fV rfl rfl I rfl h;exact bA.leaves (env:=(cf (CX1 P w) P w K mg base N qual scope f cd A outer s₀ H₀ E).env) (outer:=outer) I' rfl rfl rfl F q
theorem iO{X:Cx}(hP:X.prog=P)(hw:X.w=w):Passes (CX1 P w) X E0:=by
 intro pins σ H s e s' I h;obtain⟨x,cls,H',rfl,_,_,_,_,_,q⟩:=h;exact q.elim
noncomputable def Throws(X:Cx)(E:XK):Prop:=∀(pins:List (Addr×Obj)) (σ:St) (H:Hp) (s:af) (h':Heap) (e:Addr) (cls:ae) (args:List ae),Inv X pins σ H s->Heap.MadeExcOf s.heap h' e cls args->E cls none H->X.xe (.ref e) {s with heap:=h'}
theorem uI:Throws (cf (CX1 P w) P w K mg base N qual scope f cd A outer s₀ H₀ E) E:=by
 intro pins σ H s h' e cls args I M q;generalize hX:cf (CX1 P w) P w K mg base N qual scope f cd A outer s₀ H₀ E=X at I;have hex:X.ex=[]:=by rw[<-hX];rfl
 have hst:X.stack=X.env::X.outer:=by rw[<-hX];rfl
 have hfr:X.env.frame=some X.env.locals:=by rw[<-hX];rfl
 have hxe:X.xe=λe s'=>ak (ao X.prog X.w) X.A (leaving X.env e) (λ_ s''=>CX1 X.prog X.w X.outer X.H₀ X.s₀ E e s'') (λe' s''=>CX1 X.prog X.w X.outer X.H₀ X.s₀ E e' s'') s':=by rw[<-hX];rfl
 rw[hxe];have hfrm:=I.ok.frames;have hstk:=I.stack;have hB:(PySem.W.hideAll s.heap (frs X.stack)).StaysIn s.heap:=λb o q=>PySem.W.of_hideAll _ q
 have hF:=PySem.W.funFrames_hide (as:=frs X.stack) hstk λenv he a ha=>List.mem_filterMap.mpr ⟨env,he,ha⟩
 rw[hst]at hfrm;have hF':s.heap.FunFrames (PySem.W.hideAll s.heap (frs X.stack)) (X.env::X.outer):=by rw[<-hst];exact hF
 refine wpAny_leaves_madeW (s:={s with heap:=h'}) hfrm hfr hB hF' M λh'' t W ht ht0 u=>?_
 obtain⟨w1,w2,w3,oe',vs',T',oT',ts',f1,⟨f2,f3⟩,f4,f5,f6,f7,f8,f9,f10⟩:=W;have frd:∀b o,(b∈frs X.stack\/b=X.env.locals\/b∈X.fs)->s.heap.get? b=some o->∀ws,o.data≠.fields ws:=λb o hb e ws d=>by
  obtain⟨n1,n2,n3,n4⟩:=I.rec_ne e d;rcases hb with z|z|z
  ·exact n4 z
  ·exact n1 z
  ·exact n3 z
 have slot:∀b o,(b∈frs X.stack\/b=X.env.locals\/b∈X.fs)->s.heap.get? b=some o->∃sl,h''.get? b=some {o with slots:=sl}:=λb o hb e=>u b o (M.keeps b o e) (frd b o hb e)
 have I':Inv X pins σ H {s with heap:=h''}:=I.stepN (t':=s.toks) (ch:=[]) hex (λb hb=>absurd hb (by simp)) (λb o h1 _ _ _ e=>w1 b o (b7 _ e h1)) slot λb o _ e=>by
  by_cases hb:b∈frs X.stack
  ·obtain⟨sl,q⟩:=slot b o (.inl hb) e;exact⟨_,q⟩
  ·exact⟨o,w1 b o (b7 _ e hb)⟩
 have ap:∀b,s.heap.get? b=none->X.s₀.heap.get? b=none/\H b=none:=λb h1=>by
  refine⟨?_,I.hok.free_of h1⟩;cases q:X.s₀.heap.get? b with
  |none=>rfl
  |some o=>
   obtain⟨o',e'⟩:=I.base.there b o q (by rw[hex];simp);rw[h1]at e';cases e'
 have hT:s.heap.get? T'=none:=by
  by_cases hTf:T'∈frs X.stack
  ·obtain⟨_,o,ho,hn⟩:=hstk.mem hTf;obtain⟨sl,q⟩:=slot T' o (.inl hTf) ho;rw[q]at f8;have z:({o with slots:=sl}:Obj)=oT':=br f8;subst z;exact absurd f9 (hn ts')
  ·cases q:s.heap.get? T' with
   |none=>rfl
   |some o=>
    have:(PySem.W.hideAll s.heap (frs X.stack)).get? T'=some o:=b7 _ q hTf;rw[f6]at this;cases this
 have hb:=I'.base;rw[hex]at hb;exact⟨e,cls,H,rfl,I'.os,I'.bare,hb,I'.hok,⟨(ap e M.new).1,(ap e M.new).2,oe',vs',T',oT',ts',.ref t,f1,f2,f3,f4,f5,f7,f8,f9,f10,(ap T' hT).1,(ap T' hT).2⟩,q⟩
end
abbrev er:List Value:=[.type "ValueError",.type "Exception",.type "BaseException",.type "object"]
noncomputable def iP(K:aq)(C:Addr):Prop:=PySem.W.excIn K C er "ValueError.__new__" = true
theorem sT{K:aq}{h:Heap}{C:Addr}{bmB:List ae}{newId:String}(Z:K.In h)(q:PySem.W.excIn K C bmB newId=true) :
  ∃bm N nm qn bs hdct sn sub ab col dd k0 k1 k2 k3 k5 mN,h.get? C=some (excClassObj nm qn C N bs bm hdct sn sub ab col dd k0 k1 k2 k3 k5 newId)/\h.Ns N mN/\mN "__init__" = none/\OwnTail h bmB bm:=by
 unfold PySem.W.excIn at q;split at q
 ·rename_i dict cdat slots look
  split at q
  ·rename_i C2 bm2 j0 j1 j2 j3 nid j5 hmro hslots
   simp only[aB,beq_iff_eq,a_]at q;obtain⟨⟨⟨⟨⟨rfl,rfl⟩,nodel⟩,tl⟩,nsok⟩,noinit⟩:=q;obtain⟨c1,c2,c3,c4,c5,c6,c7,c8,c9,c10,c11⟩:=cdat;dsimp only at hmro nodel nsok noinit;subst hmro nodel;have hsl:slots = #[j0,j1,j2,j3,some (.builtin nid),j5]:=by
    obtain⟨sl⟩:=slots;simp only at hslots;rw[hslots]
   subst hsl;exact⟨bm2,c4,c1,c5,c2,c6,c7,c8,c9,c10,dict,j0,j1,j2,j3,j5,_,Z _ _ look,.of_isNs (PySem.W.isNs_of_in Z nsok),PySem.W.nsMap_none_of_in Z nsok noinit,PySem.W.tail_of_in Z tl⟩
  ·cases q
 ·cases q
section
variable{X:Cx}{C:Addr}{x:Str}{E:XK}{t:TA}{e:Expr}{es:List Expr}{np cpos pos:Pos}
noncomputable def xk(C:Addr)(E:XK)(t:TA):TS:=λ_ σ H=>t σ H λvs H1=>vs.length<=aF/\E (.ref C) none H1
theorem ml(hc:X.calm=true)(hT:Throws X E)(hC:iP X.K C)(hg:Gl X x)(hm:X.mg x=some (.ref C))(ha:PA X (e::es) t)(hd:(x==("__debug__" : Str))=false:=by decide)
  (he:aK (e::es) X.env=(false,eval e X.env)::aK es X.env:=by rfl) (hpl:(backTo cpos (aK es X.env)).any (·.1)=false:=by rfl) :
  PS X (.Raise (some (.Call (.Name x np) (e::es) [] cpos)) none pos) (xk C E t):=by
 intro pins s σ H D I h;obtain⟨bm,N,nm,q,bs,hdct,sn,sub,ab,col,dd,k0,k1,k2,k3,k5,mN,hO,hN,hni,T⟩:=sT I.mod.kin hC;refine wpAny_Raise_call_subT (C:=C) (nm:=nm) (q:=q) (N:=N) (bs:=bs) (bm:=bm) (hdct:=hdct) (sn:=sn) (sub:=sub) (ab:=ab) (col:=col) (dd:=dd) (k0:=k0) (k1:=k1) (k2:=k2) (k3:=k3) (k5:=k5)
  PySem.F.excBase_ValueError (mN:=mN) (T.hasType PySem.F.excBase_ValueError.hasBase) (I.ok.hd hc) ?_ hni (eB I hg hm ⟨rfl,?_⟩ hd)
 ·rw[he];show (false||(backTo cpos (aK es X.env)).any (·.1))=false;rw[hpl];rfl
 ·have ha':=ha cpos pins s σ H _ I h;rw[he]at ha' ⊢;exact Calls.evalArgs_plain (thn ha' λus s1 ⟨vs,H1,I1,r,z,q⟩=>⟨rfl,by rw[<-r.length];exact z,I1.bk _ _ hO,hN.keeps I1.bk,T.keeps I1.bk,λh' e' M=>hT pins σ H1 s1 h' e' _ _ I1 M q⟩)
end
structure cz(k:Nat)(A:av):Prop where
 dp:A.depth+3 * k+5<recursionLimit
 un:A.units+16 * k+200<cLine
theorem bC.u{k:Nat}{A:av}(r:bC k A):cz k A:=⟨r.dp,r.un⟩
theorem bC.mark{k:Nat}{A:av}(r:bC k A)(v:Option ae):cz k (A.mark v):=⟨r.dp,r.un⟩
theorem cz.deeper{k:Nat}{A:av}(r:cz (k+1) A)(env:Env):cz k (A.deeper env):=
 ⟨by have:=r.dp;show A.depth+1+3 * k+5<_;lia,by have:=r.un;show A.units+3+16 * k+200<_;lia⟩
structure eI(P:aw)(w:ar)(K:aq)(mg:Str->Option ae)(base:Heap)(CX:CXT)(k:Nat)(f:Addr)(fd:a8)(ps:List Str)(sp:Sp):Prop where
 len:∀vs H Q E,sp vs H Q E->vs.length=ps.length
 run:∀(A:av) (outer:List Env) (s:af) (H:Hp) (args:Args) (us:List ae) (vs:List V) (Q:VK) (E:XK),cz k A->dF P w K mg base A outer s H->BindsTo s fd args (ps.zip us)->Vals vs us->sp vs H Q E ->
  codeAny (ao P w) A (.call (.ref f) args) (CR CX outer P w H s Q E) s
section
variable{CX:CXT}{P:aw}{w:ar}{K:aq}{mg:Str->Option ae}{base:Heap}{k:Nat}{f:Addr}{fd:a8}{ps:List Str}{sp:Sp}
abbrev dG(CX:CXT)(P:aw)(w:ar)(K:aq)(mg:Str->Option ae)(base:Heap)(N:List Str)(qual:Str)(scope:aH)(f:Addr)(cd:ae)(A:av)(outer:List Env)(s:af)(H:Hp)(E:XK):Cx:=
 {cf CX P w K mg base N qual scope f cd A outer s H E with calm:=false}
theorem pM{N:List Str}{qual:Str}{scope:aH}{cd:ae}{A:av}{outer:List Env}{s s1:af}{H:Hp}{E:XK}{us:List ae}{vs:List V}
  (S:dE N ps scope) (e0:dF P w K mg base A outer s H) (hl:vs.length=ps.length) (r:Vals vs us)
  (x:InCallC s s.heap.objs.size (bindL (envOfC qual scope s.heap.objs.size f cd).kindOf (ps.zip us) λ_=>none) (aP (s.heap.objs.size+1) scope.names []) (bindC (envOfC qual scope s.heap.objs.size f cd).kindOf (ps.zip us) λ_=>none) s1) :
  Inv (dG CX P w K mg base N qual scope f cd A outer s H E) [] (start N vs) H s1:=by
 have e1:dF P w K mg base {A with handled:=none} outer s H:=⟨e0.frames,e0.mod,e0.bs,e0.bsz,e0.funs,e0.frf,e0.hok,e0.bare⟩
 have I:=jQ (CX:=CX) (E:=E) (qual:=qual) (A:={A with handled:=none}) (cd:=cd) (f:=f) S rfl e1 hl r x;exact⟨⟨I.ok.mod,I.ok.kind,I.ok.glob,I.ok.blt,I.ok.above,I.ok.inj,I.ok.has,I.ok.cab,λz=>absurd z bT,av.frames_deeper e0.frames,I.ok.stk,I.ok.exf,I.ok.bs,I.ok.bsz,I.ok.noex,I.ok.exfs,I.ok.funs,I.ok.frf⟩,
  I.os,I.bare,I.base,I.loc,I.cell,I.free,I.freeC,I.pin,I.hok,I.len⟩
theorem ow{name qual:Str}{params:Arguments}{body:List Stmt}{scope:aH}{dV kV doc pm cdv ct oc:ae}{an od:Option Addr}
  {osl:Array (Option ae)}{N:List Str} (lk:K.lookup f=some ⟨oc,od,.func (bw name qual params body scope dV kV doc pm an cdv ct),osl⟩) (hcd:PySem.W.codeIn K cdv qual=true) (S:dE N ps scope)
  (len:∀vs H Q E,sp vs H Q E->vs.length=ps.length)
  (hbody:∀(A:av) (outer:List Env) (s:af) (H:Hp) (vs:List V) (Q:VK) (E:XK),cz k (A.deeper (envOfC qual scope s.heap.objs.size f cdv))->sp vs H Q E ->
   ∃t,PSs (dG CX P w K mg base N qual scope f cdv A outer s H E) body t/\t {nx:=λ_ H'=>Q .non H',rt:=Q} (start N vs) H) :
  eI P w K mg base CX (k+1) f (bw name qual params body scope dV kV doc pm an cdv ct) ps sp:=by
 refine⟨len,λA outer s H args us vs Q E hr e0 hb r hsp=>?_⟩;have hl:=len _ _ _ _ hsp;have KX:K.In s.heap:=e0.mod.kin.keeps λb o e=>(e0.bs b o e).1
 have lim:s.heap.NoLimit:=e0.mod.nolimit.keeps λb o e=>(e0.bs b o e).1
 have hkind:∀y∈ps.zip us,scope.names.lookup y.1=some .local\/(scope.names.lookup y.1=some .cell/\((aP (s.heap.objs.size+1) scope.names []).lookup y.1).isSome=true):=λ⟨n,v⟩ hy=>by
  rcases S.par n (List.of_mem_zip hy).1 with q|q
  ·exact .inl q
  ·exact .inr ⟨q,PySem.W.cellsFrom_some _ _ _ (.inl q)⟩
 refine codeAny_call_function (by have:=hr.dp;lia) (KX _ _ lk) rfl S.co S.gen rfl (PySem.W.codeRec_of KX hcd) (hb _ _ _ _ ?_);refine wpAny_newFunctionEnv_cells S.kind hkind λenv he s1 x=>?_
 subst he;refine⟨lim.keeps x.toInCall.keep,codeAny_func ?_⟩;obtain⟨t,ht,hq⟩:=hbody A outer s H vs Q E (hr.deeper _) hsp;have I:Inv (dG CX P w K mg base N qual scope f cdv A outer s H E) [] (start N vs) H s1:=pM S e0 hl r x;refine bq (ht [] s1 (start N vs) H _ I hq) (λfl s' hs=>?_) λe s' hs=>hs
 have fin:∀{σ':St}{H':Hp}{v:V}{u:ae},Inv (dG CX P w K mg base N qual scope f cdv A outer s H E) [] σ' H' s'->RelV v u->Q v H'->CE outer P w H s Q u s':=
  λ{σ' H' v u} J rv q=>⟨v,H',J.os,J.bare,J.base,J.hok,rv,q⟩
 cases fl with
 |ret u=>
  obtain⟨v,σ',H',J,rv,q⟩:=hs;exact fin J rv q
 |next=>
  obtain⟨σ',H',J,q⟩:=hs;exact fin (v:=V.non) (u:=ae.none) J rfl q
 |brk=>
  obtain⟨_,_,_,q⟩:=hs;exact aJ q
 |cont=>
  obtain⟨_,_,_,q⟩:=hs;exact aJ q
end
section
variable{X:Cx}{CX:CXT}{k:Nat}{f:Addr}{fd:a8}{ps:List Str}{sp:Sp}{dvs:List V}{ds:List ae}{E:XK}{x:Str}{p pos:Pos}{e:Expr}{es:List Expr}{t:TA}
theorem pz{pins:List (Addr×Obj)}{σ:St}{H:Hp}{s:af}{Q:VK}{us:List ae}{vs:List V}(F:eI X.prog X.w X.K X.mg X.base CX k f fd ps sp)(hr:cz k X.A)(hb:Binds X.K fd ps ds)(hd:Vals dvs ds)(hx:Passes CX X E)
  (I:Inv X pins σ H s) (r:Vals vs us) (h:sp (vs++dvs) H Q E):ak (ao X.prog X.w) X.A (call (.ref f) us) (EP X pins σ Q) X.xe s:=by
 have r2:Vals (vs++dvs) (us++ds):=r.append hd;have hl:(us++ds).length=ps.length:=by rw[<-r2.length];exact F.len _ _ _ _ h
 refine wpAny_call (codeAny_mono (F.run X.A X.stack s H ⟨us,[]⟩ (us++ds) (vs++dvs) Q E hr I.env0 (hb s us I.kIn hl) r2 h) λr s' hq=>?_);cases r with
 |error e=>exact hx pins σ H s e s' I hq
 |ok fl=>
  cases fl with
  |ret u=>exact I.after hq
  |next=>exact aJ hq
  |brk=>exact aJ hq
  |cont=>exact aJ hq
theorem rJ(F:eI X.prog X.w X.K X.mg X.base CX k f fd ps sp)(hr:cz k X.A)(hg:Gl X x)(hm:X.mg x=some (.ref f))(hk:bH X.K (.ref f)=true)(hb:Binds X.K fd ps ds)(hd:Vals dvs ds)(hx:Passes CX X E)
  (ha:PA X (e::es) t) (hdb:(x==("__debug__" : Str))=false:=by decide) (he:aK (e::es) X.env=(false,eval e X.env)::aK es X.env:=by rfl) (hpl:(backTo pos (aK es X.env)).any (·.1)=false:=by rfl) :
  PE X (.Call (.Name x p) (e::es) [] pos) (gG sp dvs E t):=by
 intro pins s σ H Q I h;refine wpAny_Call_Name_kw (eB I hg hm ?_ hdb);refine PySem.W.callWith_K (h₀:=X.base) I.ok.mod.kin hk (thn (ha pos pins s σ H _ I h) λus s1 ⟨vs,H1,I1,r,q⟩=>⟨I1.kIn,?_⟩) he hpl;exact pz F hr hb hd hx I1 r q
end
noncomputable def eC(x:Addr)(cls:ae):HO:=.ext λh=>∃o vs,h.get? x=some o/\o.cls=cls/\o.data=.fields vs
abbrev Cx.held(X:Cx)(x:Addr):Cx:={X with A:=X.A.mark (some (.ref x)),calm:=false,xe:=λ_ _=>False}
section
variable{X:Cx}{pins:List (Addr×Obj)}{σ:St}{H:Hp}{s:af}
theorem Inv.hold(I:Inv X pins σ H s)(x:Addr):Inv (X.held x) pins σ H s:=
 ⟨⟨I.ok.mod,I.ok.kind,I.ok.glob,I.ok.blt,I.ok.above,I.ok.inj,I.ok.has,I.ok.cab,λz=>absurd z bT,I.ok.frames,I.ok.stk,I.ok.exf,I.ok.bs,I.ok.bsz,I.ok.noex,I.ok.exfs,I.ok.funs,I.ok.frf⟩,
  I.os,I.bare,I.base,I.loc,I.cell,I.free,I.freeC,I.pin,I.hok,I.len⟩
theorem Inv.unhold{x:Addr}(ok:X.Ok)(I:Inv (X.held x) pins σ H s):Inv X pins σ H s:=⟨ok,I.os,I.bare,I.base,I.loc,I.cell,I.free,I.freeC,I.pin,I.hok,I.len⟩
theorem Inv.track(I:Inv X pins σ H s){x:Addr}{o:HO}(hex:X.ex=[])(a:Apart X pins H x)(hl:x≠X.env.locals)(hc:∀y c,X.env.cells.lookup y=some c->c≠x)(ok:zy X.prog X.w (upd H x o) s.heap x o):Inv X pins σ (upd H x o) s:=by
 have nx:∀b u,H b=some u->b≠x:=λb u e z=>by rw[z,a.free]at e;cases e
 refine⟨I.ok,I.os,I.bare,⟨I.base.keep,I.base.slot,λb ob e n h=>?_,I.base.there,λb xs e=>?_,λb ob u e=>?_,λb ps e=>?_⟩,I.loc,I.cell,?_,λy c e=>?_,λp hp=>?_,λb u e=>?_,I.len⟩
 ·rw[qg (λz=>by rw[z,a.new]at e;cases e)];exact I.base.free b ob e n h
 ·have:=I.base.tups b xs e;rw[qg (nx b _ this)];exact this
 ·have:=I.base.frzs b ob u e;rw[qg (nx b _ this)];exact this
 ·obtain⟨more,q⟩:=I.base.tbls b ps e;exact⟨more,by rw[qg (nx b _ q)];exact q⟩
 ·rw[qg (Ne.symm hl)];exact I.free
 ·rw[qg (hc y c e)];exact I.freeC y c e
 ·obtain⟨e,n,r⟩:=I.pin p hp;exact⟨e,by rw[qg (a.pin p hp)];exact n,r⟩
 ·by_cases hb:b=x
  ·subst hb;rw[zm]at e;cases e;exact ok
  ·rw[qg hb]at e;refine(I.hok b u e).stay (λc v _ q=>q) (λc q=>?_) λc xs q=>?_
   ·rw[qg (nx c _ q)];exact q
   ·rw[qg (nx c _ q)];exact q
theorem Inv.forget{h':Heap}{m':Str->Option ae}{t':Nat}(I:Inv X pins σ H s)(hn:h'.Ns X.env.locals m')(hs:Heap.SameBut X.env.locals s.heap h'):Inv X pins (σ.map λ_=>none) H {s with heap:=h',toks:=t'}:=by
 have up:∀b o,X.s₀.heap.get? b=some o->b≠X.env.locals:=λb o e=>aU (aX (aE e) I.ok.above)
 refine⟨I.ok,I.os,I.bare,⟨λb o e n hb hx=>?_,λb o e n hb hx=>?_,I.base.free,λb o e hx=>?_,I.base.tups,I.base.frzs,I.base.tbls⟩,⟨m',hn,λj y v' e1 e2 e3=>?_⟩,λy c e=>?_,I.free,I.freeC,λp hp=>?_,λb ob e=>?_,by simpa using I.len⟩
 ·exact(hs.2 b (up b o e)).trans (I.base.keep b o e n hb hx)
 ·obtain⟨sl,e1⟩:=I.base.slot b o e n hb hx;exact⟨sl,(hs.2 b (up b o e)).trans e1⟩
 ·obtain⟨o',e1⟩:=I.base.there b o e hx;exact⟨o',(hs.2 b (up b o e)).trans e1⟩
 ·rw[List.getElem?_map]at e2;cases q:σ[j]? with
  |none=>rw[q]at e2;cases e2
  |some z=>rw[q]at e2;cases e2
 ·obtain⟨w',z⟩:=I.cell y c e;exact⟨w',z.sameBut hs (I.cne y c e)⟩
 ·obtain⟨e,n,ne,nf,d⟩:=I.pin p hp;exact⟨(hs.2 p.1 ne).trans e,n,ne,nf,d⟩
 ·refine(I.hok b ob e).stay (λc w' hc q=>(hs.2 c ?_).trans q) (λ_ q=>q) λ_ _ q=>q
  rintro rfl;rcases hc with rfl|hc
  ·rw[I.free]at e;cases e
  ·rw[I.free]at hc;cases hc
end
noncomputable def mm(i:Nat)(K:aq)(C:Addr)(n:Nat)(tb:TS)(Eh:XK)(ts:TS):TS:=λD σ H=>tb {D with nx:=D.nx} σ H /\
 ∀(τ:St) (cls:ae) (H':Hp) (x:Addr),τ.length=n->Eh cls none H'->H' x=none->bj K cls (.ref C)=some true /\
  ts {nx:=λ_ _=>False,rt:=D.rt} (τ.set i (some (.ref x))) (upd H' x (eC x cls))
abbrev Cx.inTry(X:Cx)(pn:List (Addr×Obj))(Et:ae->af->Prop):Cx:={X with pn:=pn,xe:=Et}
theorem rG{X:Cx}{i:Nat}{C:Addr}{cn n:Str}{np hpos pos:Pos}{body:List Stmt}{b₀:Stmt}{suite:List Stmt}{tb ts:TS}{Eh:XK}(hex:X.ex=[])(hst:X.stack=X.env::X.outer)(hfr:X.env.frame=some X.env.locals)
  (hN:X.N.Nodup) (hi:X.N[i]? = some n) (hl:X.env.scope.names.lookup n=some .local) (hg:Gl X cn) (hm:X.mg cn=some (.ref C))
  (hb:∀pn Et,Passes (CX1 X.prog X.w) (X.inTry pn Et) Eh->PSs (X.inTry pn Et) body tb) (hs:∀x,PSs (X.held x) (b₀::suite) ts) (hd:(cn==("__debug__" : Str))=false:=by decide) :
  PS X (.Try body [.ExceptHandler (some (.Name cn np)) (some n) (b₀::suite) hpos] [] [] pos) (mm i X.K C X.N.length tb Eh ts):=by
 intro pins s σ H D I h;obtain⟨h1,h2⟩:=h;refine wpAny_Try_except ?_;have okT:∀Et,(X.inTry (X.pn++pins) Et).Ok:=λEt=>
  ⟨I.ok.mod,I.ok.kind,I.ok.glob,I.ok.blt,I.ok.above,I.ok.inj,I.ok.has,I.ok.cab,I.ok.hd,I.ok.frames,I.ok.stk,I.ok.exf,I.ok.bs,I.ok.bsz,I.ok.noex,I.ok.exfs,I.ok.funs,I.ok.frf⟩
 have toT:∀{Et σ H s},Inv X pins σ H s->Inv (X.inTry (X.pn++pins) Et) [] σ H s:=λ{Et σ H s} J=>
  ⟨okT Et,J.os,J.bare,J.base,J.loc,J.cell,J.free,J.freeC,λp hp=>J.pin p (by simpa using hp),J.hok,J.len⟩
 have ofT:∀{Et pins' σ H s},Inv (X.inTry (X.pn++pins) Et) pins' σ H s->Inv X pins σ H s:=λ{Et pins' σ H s} J=>
  ⟨I.ok,J.os,J.bare,J.base,J.loc,J.cell,J.free,J.freeC,λp hp=>J.pin p (List.mem_append_left _ hp),J.hok,J.len⟩
 have hcls:(X.env.scope.kind==.class||(X.env.scope.kind==.module&&X.env.locals != X.env.globals))=false:=by rw[I.ok.kind];rfl
 have hP:Passes (CX1 X.prog X.w) (X.inTry (X.pn++pins) λe s₁=>ak (ao X.prog X.w) X.A (noteFrame e X.env) (λ_ s₂=>ak (ao X.prog X.w) X.A (setFlight e none) (λ_ s₃=>
   ak (ao X.prog X.w) X.A (handleBy e X.env [.ExceptHandler (some (.Name cn np)) (some n) (b₀::suite) hpos]) (SP X pins D) X.xe s₃) X.xe s₂) X.xe s₁) Eh:=by
  intro pins' σ' H' s' e s'' I' hcx;obtain⟨x,cls,H2,rfl,I2,F2,q⟩:=fV (X:=X.inTry (X.pn++pins) _) rfl rfl I' hex hcx;have I3:Inv X pins σ' H2 s'':=ofT I2;have ap:∀{Et b},Apart (X.inTry (X.pn++pins) Et) pins' H2 b->Apart X pins H2 b:=λ{Et b} a=>⟨a.new,a.free,λp hp=>a.pin p (List.mem_append_left _ hp)⟩
  have F3:bA X pins H2 s''.heap x cls:=by
   obtain⟨oe,vs,T,oT,ts,a0,e1,e2,e3,e4,e5,e6,e7,e8,e9,e10⟩:=F2.tr;exact⟨ap F2.me,oe,vs,T,oT,ts,a0,e1,e2,e3,e4,e5,e6,e7,e8,e9,ap e10⟩
  obtain⟨oe,vs,_,_,_,_,e1,_,_,e4,_⟩:=id F3.tr;obtain⟨T,oT,tts,a0,W,hT,hTd,aT⟩:=bA.flying I3 F3;have hfrm:=I.ok.frames;rw[hst]at hfrm W;refine wpAny_looks_onW hfrm hfr W λh4 W4 u4=>?_
  refine wpAny_landsW W4 λh5 W5 u5=>?_
  rw[<-hst]at W5;obtain⟨I5,F5⟩:=bA.back I3 hex F3.me e1 e4 hT hTd aT W5 (u4.trans u5);obtain⟨oe5,vs5,T5,oT5,ts5,a5,g1,g2,g3,g4,g5,g6,g7,g8,g9,g10⟩:=id F5.tr;obtain⟨hx1,hx2⟩:=h2 σ' cls H2 x I3.len q F3.me.free;have LT:PySem.W.Looks (ao X.prog X.w) h5 (typeOf (.ref x)) cls:=by
   subst g2;exact(PySem.W.Looks.ld g1).andThen .now
  refine wpAny_handleBy_cons (codeAny_handlers_test (eB (I5.hold x) hg hm ?_ hd)) (by intro z;cases z);refine PySem.W.exm_one (K:=X.K) I5.kIn LT hx1 _ _ _ _ (λ_ _ e=>e) ?_;refine codeAny_handlers_suite_as ?_;obtain⟨T6,oT6,ts6,a6,W6,hT6,hTd6,aT6⟩:=bA.flying I5 F5;refine lands_againW W6 λh6 W6' u6=>?_
  obtain⟨I6,F6⟩:=bA.back I5 hex F5.me g1 g4 hT6 hTd6 aT6 W6' u6;obtain⟨oe6,vs6,_,_,_,_,k1,k2,_,k4,_⟩:=id F6.tr;obtain⟨n1,n2,n3,n4⟩:=I6.rec_ne k1 k4;have I7:=I6.track (o:=eC x cls) hex F6.me n1 n2 ⟨⟨oe6,vs6,k1,k2,k4⟩,⟨oe6,k1⟩,λha hb ⟨o,ws,z1,z2,z3⟩ kk=>⟨o,ws,kk o z1,z2,z3⟩⟩;refine iK (X:=X.held x) (v:=.ref x) (I7.hold x) hN hi (.inl hl) rfl (λs8 I8=>?_) (.inr hl);refine bq (hs x pins s8 _ _ _ I8 hx2) (λf s9 r9=>?_) λ_ _ z=>aJ z
  cases f with
  |ret u=>
   obtain⟨v,σ9,H9,I9,rv,q9⟩:=r9;have I9':=I9.unhold I.ok;obtain⟨m,hn,_⟩:=I9'.loc;exact wpAny_nameGoes hl hn hcls λh' m' hn' hs'=>⟨v,_,H9,I9'.forget hn' hs',rv,q9⟩
  |next=>obtain⟨_,_,_,z⟩:=r9;exact aJ z
  |brk=>obtain⟨_,_,_,z⟩:=r9;exact aJ z
  |cont=>obtain⟨_,_,_,z⟩:=r9;exact aJ z
 refine thn (hb _ _ hP [] s σ H _ (toT I) h1) λf s1 q=>?_
 cases f with
 |next=>obtain⟨σ1,H1,I1,q1⟩:=q;exact wpAny_execs_nil ⟨σ1,H1,ofT I1,q1⟩
 |brk=>obtain⟨σ1,H1,I1,q1⟩:=q;exact⟨σ1,H1,ofT I1,q1⟩
 |cont=>obtain⟨σ1,H1,I1,q1⟩:=q;exact⟨σ1,H1,ofT I1,q1⟩
 |ret u=>obtain⟨v,σ1,H1,I1,rv,q1⟩:=q;exact⟨v,σ1,H1,ofT I1,rv,q1⟩
end L2
namespace L2
open PySem PySem.Spec PyProof.Rows PySem.W PySem.Calls Builtin Builtin.ObjectAttr Builtin.Getset_descriptor
structure zD(K:Frag)(C:Addr):Prop where
 ga:findIn K (.ref C) "__getattribute__" = some (some (.builtin "BaseException.__getattribute__"))
 gt:findIn K (.ref C) "__getattr__" = some none
 gc:findIn K (.ref C) "__class__" = some (some (.builtin "object.__class__"))
 mb:mroIn K C (.type "BaseException")=some true
 mo:mroIn K C (.type "object")=some true
 cl:∃c dd cd sl,K.lookup C=some ⟨c,dd,.cls cd,sl⟩
section
variable{prog:aw}{w:ar}{A:av}{E:ae->af->Prop}{h:Heap}{g:Array GenState}{d:Drawn}{t:Nat}{os:OsState}{x C:Addr}{K:Frag}
theorem oz{R:Result->af->Prop}{tp:ae}(Z:K.In h)(S:zD K C)(L0:Looks (ao prog w) h (typeOf (.ref x)) (.ref C))(hx:∃o,h.get? x=some o/\o.cls=.ref C)(hq:R (.ok (.ret (.ref C))) ⟨h,g,d,t,os⟩) :
  codeAny (ao prog w) A (.call (.builtin "getset_descriptor.__get__") ⟨[.builtin "object.__class__",.ref x,tp],[]⟩) R ⟨h,g,d,t,os⟩:=by
 have L1:=looks_mroIn (M:=ao prog w) Z S.mo;obtain⟨o,ho,hc⟩:=hx;refine codeAny_call_builtin KF.slot_gs.plain KF.entry_gs (KF.slot_gs.check _ _ _ _ _ _ _ _ KF.type_class (KF.args_gs _ _ _) ?_);unfold Builtin.«getset_descriptor.__get__» descrGet;rw[dga_obj];refine au (aD ?_);unfold descrGetter descrCheckInstance descrNameAndClass isInstance;simp only[KF.owner_class]
 repeat lk
 refine⟨Code.quiet_builtin _ (by decide +kernel),codeAny_builtin KF.entry_class ?_⟩;unfold Builtin.«object.__class__» shownTypeOf
 repeat lk
 exact hq
theorem mz{M:Model}{nameV:ae}{Q:Unit->af->Prop}(Z:K.In h)(S:zD K C)(L0:Looks M h (typeOf (.ref x)) (.ref C))(hq:Q () ⟨h,g,d,t,os⟩) :
  ak M A (checkBuiltinCall "BaseException.__getattribute__" ⟨[.ref x,nameV],[]⟩) Q E ⟨h,g,d,t,os⟩:=by
 have hk:builtinKind "BaseException.__getattribute__" = some .slot:=by decide +kernel
 have hsplit:splitId "BaseException.__getattribute__" = some ("BaseException","__getattribute__"):=by decide +kernel
 have L1:=looks_mroIn (M:=M) Z S.mb;have ha:=F.args_bexc_ga (.ref x) nameV;simp only[checkBuiltinCall,hk,hsplit];refine au ?_;unfold isInstance
 repeat (first|assumption|lk|wp_step)
theorem n5{tk:Tok}{Q:Fin->af->Prop}(Z:K.In h)(S:zD K C)(L0:Looks (ao prog w) h (typeOf (.ref x)) (.ref C))(hx:∃o,h.get? x=some o/\o.cls=.ref C)(hq:Q (.done (.ret (.ref C))) ⟨h,g,d,t,os⟩) :
  ak (ao prog w) A (Builtin.«object.__getattribute__» ⟨[.ref x,.str "__class__" tk],[]⟩) Q E ⟨h,g,d,t,os⟩:=by
 have hT5:(⟨h,g,d,t,os⟩:af).TypeIs (.builtin "object.__class__") "getset_descriptor":=F.typeOf_object_class;have L2:=looks_findIn (M:=ao prog w) Z S.gc;have f5:=F.typeOf_object_class;have f6:=F.slot_gs_get.lookup;have f7:=F.slot_gs_set.lookup
 repeat (any_goals (first|assumption|with_reducible refine L0.at ?_|with_reducible refine au (L0.at ?_)|with_reducible refine L2.at ?_|with_reducible refine au (L2.at ?_)|wp_step))
 refine oz Z S L0 hx ?_
 repeat (any_goals (first|assumption|wp_step))
theorem xm{tk:Tok}{Q:ae->af->Prop}(Z:K.In h)(S:zD K C)(L0:Looks (ao prog w) h (typeOf (.ref x)) (.ref C))(hx:∃o,h.get? x=some o/\o.cls=.ref C)(hq:Q (.ref C) ⟨h,g,d,t,os⟩) :
  ak (ao prog w) A (getAttrBy (.ref x) (.str "__class__" tk) false) Q E ⟨h,g,d,t,os⟩:=by
 have f3:=F.attr_ValueError.ga.bind (.ref x);have hx2:(ae.builtin "BaseException.__getattribute__" == ae.builtin "object.__getattribute__")=false:=by decide +kernel
 have hx1:(onTheHeap (ae.ref C)&&ae.builtin "BaseException.__getattribute__" == ae.builtin "object.__getattribute__")=false:=by rw[hx2];rfl
 have L2:=looks_findIn (M:=ao prog w) Z S.ga;have L3:=looks_findIn (M:=ao prog w) Z S.gt
 repeat (any_goals (first|assumption|with_reducible refine L0.at ?_|with_reducible refine au (L0.at ?_)|with_reducible refine L2.at ?_|with_reducible refine au (L2.at ?_)|with_reducible refine L3.at ?_|with_reducible refine au (L3.at ?_)|wp_step))
 refine codeAny_call_builtin F.attr_ValueError.ga.plain F.entry_bexc_ga (mz Z S L0 (n5 Z S L0 hx ?_))
 repeat (any_goals (first|assumption|wp_step))
theorem pZ{Q:Option ae->af->Prop}(Z:K.In h)(S:zD K C)(L0:Looks (ao prog w) h (typeOf (.ref x)) (.ref C))(hx:∃o,h.get? x=some o/\o.cls=.ref C)(hq:Q (some (.ref C)) ⟨h,g,d,t+1,os⟩) :
  ak (ao prog w) A (getAttr? (.ref x) "__class__") Q E ⟨h,g,d,t,os⟩:=by
 unfold getAttr? getAttrBy?
 repeat (any_goals (first|assumption|with_reducible apply xm Z S L0 hx|wp_step))
end
end L2
namespace L2
open PySem PySem.Spec PyProof.Rows
structure xA(prog:aw)(w:ar)(xs:Array ae)(i l:Addr)(P:Nat->Heap->Prop):Prop where
 fr:∀k h h',P k h->(∀o,h.get? i=some o->h'.get? i=some o)->(∀o,h.get? l=some o->h'.get? l=some o)->P k h'
 nx:∀{A:av} (k:Nat) (x:ae) (s:af) (Q:ae->af->Prop) (E:ae->af->Prop),P k s.heap->xs[k]? = some x->(∀h',P (k+1) h'->Heap.SameBut i s.heap h'->Q x {s with heap:=h'})->ak (ao prog w) A (Builtin.SmallTypes.nextOf (.ref i)) Q E s
 en:∀{A:av} (k:Nat) (s:af) (Q:ae->af->Prop) (E:ae->af->Prop),A.handled=none->P k s.heap->xs[k]? = none ->
  (∀h' e,Heap.ExtBut i s.heap h'->(∃o,h'.get? e=some o/\o.cls=.type "StopIteration")->E (.ref e) {s with heap:=h'})->ak (ao prog w) A (Builtin.SmallTypes.nextOf (.ref i)) Q E s
 at_:∀k h,P k h->∃o,h.get? i=some o/\∃vs,o.data=.fields vs
section
variable{prog:aw}{w:ar}{A:av}{E:ae->af->Prop}{s:af}
end
section
variable{prog:aw}{w:ar}{A:av}{E:ae->af->Prop}{s:af}{z TI TO i1 i2 l1 l2:Addr}{k:Nat}{xs ys:Array ae}{P1 P2:Nat->Heap->Prop}
structure xB(z TI TO i1 i2 l1 l2:Addr):Prop where
 d:ZipApart z TI TO i1 i2 l1 l2
end
section
variable{X:Cx}{pins:List (Addr×Obj)}{σ:St}{H:Hp}{s:af}{h':Heap}{tk:Nat}
theorem Inv.turnNew{ch:List Addr}{p:Addr}{vs:List V}{its:List ae}(I:Inv X pins σ H s)(hf:∀b∈ch,b4 X pins H b)(k:∀b o,b∉ch->s.heap.get? b=some o->h'.get? b=some o)
  (hp:s.heap.objs.size<=p) (ht:IsTup h' p its.toArray) (r:Vals vs its) (hz:vs.length<=aF):Inv X pins σ (upd H p (.tup vs)) {s with heap:=h',toks:=tk}:=by
 have hpn:H p=none:=I.hok.fresh hp;have nch:∀b u,H b=some u->b∉ch:=λb u e z=>by have:=(hf b z).1;rw[e]at this;cases this
 have np:∀b u,H b=some u->b≠p:=λb u e z=>by rw[z,hpn]at e;cases e
 refine I.step (g':=s.gens) (d':=s.drawn) (ch:=ch) (λb hb=>?_) (λb o _ _ hc e _=>k b o hc e) (λb o _ _ hc e _=>⟨o.slots,k b o hc e⟩) (λb o hc e n=>?_) (λb o hc e=>⟨o,k b o hc e⟩)
  (λb xs e=>by rw[qg (np b _ e)];exact e) (λb o u e=>by rw[qg (np b _ e)];exact e) (λb ps e=>⟨#[],by rw[qg (np b _ e),e];simp⟩) (λm hm=>?_) (λb u e=>?_) I.bare
 ·obtain⟨f0,f1,f2,f3,f4,f5⟩:=hf b hb;exact⟨f3,f1,f4,f5⟩
 ·rw[qg (aU (aX (aE e) hp))];exact n
 ·obtain⟨o,es,ep,ho,r⟩:=hm;exact⟨o,es,ep,k _ o (λz=>(hf _ z).2.1 rfl) ho,r⟩
 ·by_cases hb:b=p
  ·subst hb;rw[zm]at e;cases e;exact⟨hz,its,r,ht⟩
  ·rw[qg hb]at e;refine(I.hok b u e).stay (λc v hc q=>k c v ?_ q) (λc q=>by rw[qg (np c _ q)];exact q) λc xs q=>by rw[qg (np c _ q)];exact q
   rcases hc with z|z
   ·rw[z];exact nch b u e
   ·exact nch c _ z
theorem Inv.turnAll{ch:List Addr}(I:Inv X pins σ H s)(hf:∀b∈ch,b4 X pins H b)(k:∀b o,b∉ch->s.heap.get? b=some o->h'.get? b=some o):Inv X pins σ H {s with heap:=h',toks:=tk}:=by
 have nch:∀b u,H b=some u->b∉ch:=λb u e z=>by have:=(hf b z).1;rw[e]at this;cases this
 refine I.step (g':=s.gens) (d':=s.drawn) (ch:=ch) (λb hb=>?_) (λb o _ _ hc e _=>k b o hc e) (λb o _ _ hc e _=>⟨o.slots,k b o hc e⟩) (λb o hc e n=>n) (λb o hc e=>⟨o,k b o hc e⟩)
  (λb xs e=>e) (λb o u e=>e) (λb ps e=>⟨#[],by rw[e];simp⟩) (λm hm=>?_) (λb u e=>?_) I.bare
 ·obtain⟨f0,f1,f2,f3,f4,f5⟩:=hf b hb;exact⟨f3,f1,f4,f5⟩
 ·obtain⟨o,es,ep,ho,r⟩:=hm;exact⟨o,es,ep,k _ o (λz=>(hf _ z).2.1 rfl) ho,r⟩
 ·refine(I.hok b u e).stay (λc v hc q=>k c v ?_ q) (λc q=>q) λc xs q=>q
  rcases hc with z|z
  ·rw[z];exact nch b u e
  ·exact nch c _ z
end
section
variable{prog:aw}{w:ar}{A:av}{E:ae->af->Prop}{s:af}
end
theorem mZ{K:aq}{x C:Addr}(S:zD K C):PySem.W.KitX K (.ref x) (.ref C) (λh=>∃o,h.get? x=some o/\o.cls=.ref C) where
 ty:=λM h _ ⟨o,e,c⟩=>c▸(PySem.W.Looks.ld e).andThen .now
 it:=λ_ _ Z _=>by
  obtain⟨c,dd,cd,sl,e⟩:=S.cl;intro A' Q' E' s' k q;unfold isType loadHead;exact au (wpAny_loadPart (k _ _ (Z _ _ e)) (aD q))
 ne:=λh tp dd its n sl Z htp=>by
  obtain⟨c,dd',cd,sl',e⟩:=S.cl;refine Bool.eq_false_iff.mpr λq=>?_
  have e1:C=tp:=ae.ref.inj (beq_iff_eq.mp q);subst e1;have z:=(Z _ _ e).symm.trans htp;cases z
 ca:=λ{prog w A E Q s} Z ⟨o,e,c⟩ k=>by
  obtain⟨hh,g,d,t,os⟩:=s;exact pZ Z S (c▸(PySem.W.Looks.ld e).andThen .now) ⟨o,e,c⟩ k
noncomputable def gP:V->Option ae
 | .ty n=>some (.type n)
 | .ref a=>some (.ref a)
 |_=>none
noncomputable def TyX(K:aq)(H:Hp)(x:V)(t:ae):Prop:=b3 K H x t\/∃a C,x=.ref a/\t=.ref C/\H a=some (eC a (.ref C))/\zD K C
theorem mO{X:Cx}:zh X (.builtin "isinstance") (λxs H Q=>∃x c cv t b,xs=[x,c]/\gP c=some cv/\TyX X.K H x t/\aW X.K t cv=some b/\Q (.bl b) H):=by
 intro pins s σ H xs us Q I r h;obtain⟨x,c,cv,t,b,rfl,hc,ty,hk,q⟩:=h;obtain⟨u,cu,rfl,rx,rc⟩:=r.two;have e:cu=cv:=by
  cases c with
  |ty n=>cases hc;exact rc
  |ref a=>cases hc;exact rc
  |_=>cases hc
 subst e;rcases ty with ty|⟨a,C,rfl,rfl,ha,S⟩
 ·exact el I rx ty hk λtk=>⟨.bl b,H,I.tok tk,rfl,q⟩
 ·cases rx;obtain⟨⟨o,vs,e1,e2,e3⟩,_⟩:=(show zy X.prog X.w H s.heap a (eC a (.ref C))from I.hok a _ ha)
  exact bf (mZ S) I.kIn ⟨o,e1,e2⟩ hk (λz=>nomatch z) λtk=>⟨.bl b,H,I.tok tk,rfl,q⟩
theorem rA{K:aq}{T:String}:aW K (.type T) (.type T)=some true:=by unfold aW;rw[if_pos (by simp)]
theorem tG{K:aq}{a T:String}{b:Bool}(hne:(ae.type a==ae.type T)=false)(hm:PySem.W.kitMeta T=true)(hf:(fastBuiltinMro a).map (·.contains (.type T))=some b):aW K (.type a) (.type T)=some b:=by
 unfold aW PySem.W.kitCls ax;rw[if_neg (by rw[hne];exact bT)];dsimp only;rw[if_pos hm];exact hf
noncomputable def dM(a T:String):Bool:=a==T||(a == "bool" && T == "int")
theorem oG{K:aq}{a T:String}(ha:a∈["NoneType","bool","int","str","list","tuple","dict"])(hT:T∈["int","bool","str","list","tuple"]):aW K (.type a) (.type T)=some (dM a T):=by
 simp only[aI,bc,or_false]at ha hT;rcases ha with rfl|rfl|rfl|rfl|rfl|rfl|rfl<;>rcases hT with rfl|rfl|rfl|rfl|rfl<;>first|exact rA|exact tG (by decide +kernel) (by decide +kernel) (by decide +kernel)
noncomputable def ltP(p q:Int×Int):Bool:=if p.1=q.1 then decide (p.2<q.2)else decide (p.1<q.1)
section
variable{prog:aw}{w:ar}{A:av}{E:ae->af->Prop}{s:af}
end
theorem ph{h:Heap}{a:Addr}{m m':Str->Option ae}(x:h.Ns a m)(y:h.Ns a m'):m=m':=by
 obtain⟨o,es,ep,e1,e2,_,e4⟩:=x;obtain⟨o',es',ep',f1,f2,_,f4⟩:=y;rw[e1]at f1;cases f1;rw[e2]at f2;cases f2;funext n;rw[<-e4,<-f4]
theorem Inv.newList{X:Cx}{pins:List (Addr×Obj)}{σ:St}{H:Hp}{s s':af}{D:Addr}{out:List V}{its:List ae}{c:Nat}(I:Inv X pins σ H s)(hos:s'.os=s.os)(hg:s'.gens=s.gens)
  (k:∀b o,b≠X.env.locals->s.heap.get? b=some o->s'.heap.get? b=some o) (ns:∀m,s.heap.Ns X.env.locals m->s'.heap.Ns X.env.locals m) (hD:s.heap.get? D=none) (hDL:D≠X.env.locals)
  (hl:s'.heap.get? D=some {cls:=.type "list",data:=.seq its.toArray c}) (r:Vals out its) (hz:out.length<=aF):Inv X pins σ (upd H D (.lst out)) s':=by
 obtain⟨h',g',d',t',o'⟩:=s';have eo:o'=s.os:=hos;have eg:g'=s.gens:=hg;subst eo eg;have hpn:H D=none:=I.hok.free_of hD;have np:∀b u,H b=some u->b≠D:=λb u e z=>by rw[z,hpn]at e;cases e
 obtain⟨m0,n0,_⟩:=id I.loc;obtain⟨oL,es,ep,hoL,_⟩:=id n0;obtain⟨oL',es',ep',hoL',_⟩:=ns _ n0;refine I.step (g':=s.gens) (d':=d') (ch:=[]) (λb hb=>absurd hb (by simp)) (λb o hL _ _ e _=>k b o hL e) (λb o hL _ _ e _=>⟨o.slots,k b o hL e⟩) (λb o _ e n=>?_) (λb o _ e=>?_)
  (λb xs e=>by rw[qg (np b _ e)];exact e) (λb o u e=>by rw[qg (np b _ e)];exact e) (λb ps e=>⟨#[],by rw[qg (np b _ e),e];simp⟩) ns (λb u e=>?_) I.bare
 ·rw[qg (λz=>by rw[z,hD]at e;cases e)];exact n
 ·by_cases hL:b=X.env.locals
  ·exact⟨oL',by rw[hL];exact hoL'⟩
  ·exact⟨o,k b o hL e⟩
 ·by_cases hb:b=D
  ·subst hb;rw[zm]at e;cases e;exact⟨hz,its,c,r,hl⟩
  ·rw[qg hb]at e;have nl:∀c,(∃u,H c=some u)->c≠X.env.locals:=λc ⟨u,e⟩ z=>by rw[z,I.free]at e;cases e
   refine(I.hok b u e).stay (λc v hc q=>k c v (nl c ?_) q) (λc q=>by rw[qg (np c _ q)];exact q) λc xs q=>by rw[qg (np c _ q)];exact q
   rcases hc with z|z
   ·exact⟨u,by rw[z];exact e⟩
   ·exact⟨_,z⟩
section
variable{prog:aw}{w:ar}{A:av}{E:ae->af->Prop}{s:af}
end
section
variable{X:Cx}{pins:List (Addr×Obj)}{σ:St}{H:Hp}{s:af}
theorem Inv.big(I:Inv X pins σ H s):sysModules<s.heap.objs.size:=by
 obtain⟨o,_,_,e,_⟩:=I.mod.glob;exact Nat.lt_of_le_of_lt (by decide) (aE (I.bk _ _ e))
theorem sQ{pos:Pos}:PE X (.Dict [] [] pos) (λ_ H Q=>∀p,H p=none->Q (.ref p) (upd H p (.dK []))):=λpins s σ H Q I h=>
 wpAny_Dict_empty ⟨.ref s.heap.objs.size,_,I.laid (a:=s.heap.objs.size) (o:=.dK []) (t':=s.toks) (λ_ _ q=>Heap.get?_push_of_some _ q) (aC _) ⟨Nat.zero_le _,beq_eq_false_iff_ne.mpr (Ne.symm (aU I.big)),[],.nil,Heap.DictOf.new s.heap⟩,rfl,h _ (I.hok.fresh (aC _))⟩
theorem gF{A:av}{bs:List Bool}{us:List ae}(r:Vals (bs.map V.bl) us):us=bs.map ae.bool:=by
 induction bs generalizing us with
 |nil=>cases r;rfl
 |cons b bs ih=>cases r with
  |cons h t=>rw[ih t,show _=a7 b from h];rfl
end
section
variable{X:Cx}
noncomputable def lV(r r' r'':R2)(ta tb tc td:TE):TE:=λσ H Q=>ta σ H λx H1=>tb σ H1 λy H2=>r x y H2 λz H3=>∃k,z=.bl k /\
 (if k=true then tc σ H3 λw' H4=>r' y w' H4 λz H5=>∃k,z=.bl k/\(if k=true then td σ H5 λw'' H6=>r'' w' w'' H6 Q else Q (.bl false) H5)else Q (.bl false) H3)
theorem nI{a b c d:Expr}{ta tb tc td:TE}{pos:Pos}{op op' op'':CmpOp}{r r' r'':R2}(ho:OpR X (aO op) r)(ho':OpR X (aO op') r')(ho'':OpR X (aO op'') r'')(ha:PE X a ta)(hb:PE X b tb)(hc:PE X c tc)(hd:PE X d td)
  (hm:lastMarks [op,op',op''] [b,c,d]=false:=by with_unfolding_all rfl):PE X (.Compare a [op,op',op''] [b,c,d] pos) (lV r r' r'' ta tb tc td):=by
 intro pins s σ H Q I h;refine Compare_chain (thn (ha pins s σ H _ I h) λv s1 ⟨x,H1,I1,r1,q1⟩=>chain_link (thn (hb pins s1 σ H1 _ I1 q1) λu s2 ⟨y,H2,I2,r2,q2⟩=>
  thn (ho pins s2 σ H2 x y v u _ I2 r1 r2 q2) λd s3 ⟨z,H3,I3,r3,k,e,q3⟩=>?_)) hm
 subst e;cases r3;refine ba ?_;cases k with
 |false=>exact ite_ff ⟨.bl false,H3,I3,rfl,q3⟩
 |true=>
  refine ite_tt (chain_link (thn (hc pins s3 σ H3 _ I3 q3) λw' s4 ⟨z',H4,I4,r4,q4⟩=>thn (ho' pins s4 σ H4 y z' u w' _ I4 r2 r4 q4) λd' s5 ⟨z2,H5,I5,r5,k2,e2,q5⟩=>?_));subst e2;cases r5;refine ba ?_;cases k2 with
  |false=>exact ite_ff ⟨.bl false,H5,I5,rfl,q5⟩
  |true=>exact ite_tt (chain_last (thn (hd pins s5 σ H5 _ I5 q5) λw'' s6 ⟨z3,H6,I6,r6,q6⟩=>ho'' pins s6 σ H6 z' z3 w' w'' Q I6 r4 r6 q6))
noncomputable def uq(K:aq):R2:=λx y H Q=>∃a b xs ys,x=.ref a/\y=.ref b/\SqT K H a xs/\SqT K H b ys/\xs.length+ys.length<=aF /\
 (xs=[]->Q (.ref b) H)/\(xs≠[]->ys=[]->Q (.ref a) H)/\(xs≠[]->ys≠[]->∀p,H p=none->Q (.ref p) (upd H p (.tup (xs++ys))))
theorem uU:OpR X (binaryOp .Add) (uq X.K):=by
 intro pins s σ H x y v u Q I rx ry h;obtain⟨a,b,xs,ys,rfl,rfl,ha,hb,hz,q0,q1,q2⟩:=h;by_cases hx:xs=[]
 ·subst hx;cases rx;cases ry;obtain⟨its,r1,p1,_⟩:=I.tuple ha;obtain⟨its2,r2,p2,_⟩:=I.tuple hb;cases r1;obtain⟨⟨cls,dd,data,sl⟩,ho,hc,n,hd⟩:=id p1;obtain⟨⟨cls2,dd2,data2,sl2⟩,ho2,hc2,n2,hd2⟩:=id p2;simp only at hc hd hc2 hd2;subst hc hd hc2 hd2;exact concat_meets ⟨_,ho,rfl⟩ ⟨_,ho2,rfl⟩ noFill_tuple_add seq_tuple_add PySem.F.slot_tuple_add PySem.F.entry_tuple_add (PySem.F.args_tuple_add_2 _ _)
   (tuple_addW0 a b _ its2.toArray n n2 dd dd2 sl sl2 (by simp)) ⟨ho,ho2,⟨.ref b,H,I,rfl,q0 rfl⟩⟩
 ·exact xi pins s σ H (.ref a) (.ref b) v u Q I rx ry ⟨a,b,xs,ys,rfl,rfl,ha,hb,hx,hz,q1 hx,q2 hx⟩
theorem p7{vs:List ae}{ns:List Int}(h:IntsAre vs ns):Vals (ns.map V.int) vs:=by
 induction h with
 |nil=>exact .nil
 |cons n t _ ih=>exact .cons ⟨t,rfl⟩ ih
noncomputable def sr(K:aq):List V->Hp->VK->Prop:=λvs H Q=>∃(l:Addr) (ns:List Int),vs=[.ref l]/\SqL K H l (ns.map V.int)/\ns.length<64/\∀(D:Addr) (ms:List Int),H D=none->ms.Perm ns->ms.Pairwise (·<=·)->Q (.ref D) (upd H D (.lst (ms.map V.int)))
theorem rp:zh X (.builtin "sorted") (sr X.K):=by
 intro pins s σ H xs us Q I r h;obtain⟨l,ns,rfl,hl,h64,q⟩:=h;obtain⟨u,rfl,ru⟩:=r.one;cases ru;obtain⟨its,rv,pl,hz⟩:=I.list hl;obtain⟨m,F⟩:=I.fr;refine PySem.W.kso_sorted F (uo (g:=X.base) (h:=s.heap) (L:=X.env.locals)) pl.isList (intsAre_of rv) h64 λD vs' ns' c h' F' N' hlt hi he hp ho _=>?_
 have keep:∀b o,b≠X.env.locals->s.heap.get? b=some o->h'.get? b=some o:=λb o hb e=>by
  cases qb:X.base.get? b with
  |some ob=>have:=I.bk b ob qb;rw[e]at this;cases this;exact F'.keep b _ qb
  |none=>exact(N' (b,o) (aL _ (ke hb qb e))).1
 have hDn:=N' (D,_) aM;have hD0:s.heap.get? D=none:=by
  cases qd:s.heap.get? D with
  |none=>rfl
  |some o=>exact absurd (hlt (D,o) (ke hDn.2.1 hDn.2.2 qd)) (bp _)
 refine⟨.ref D,_,I.newList (s':={s with heap:=h'}) (c:=c) rfl rfl keep (λm' hm'=>?_) hD0 hDn.2.1 hDn.1 (p7 hi) (by rw[bK,he,bh];lia),rfl,q D ns' (I.hok.free_of hD0) hp ho⟩;rw[ph hm' F.ns];exact F'.ns
end
noncomputable def Ite(K:aq)(l:Addr):It:=
 ⟨λi H=>∃xs x,SqL K H l xs/\xs[i]? = some x,
  λi H v H'=>∃p x,H p=none/\v=.ref p/\H'=upd H p (.tup [.int i,x])/\∀xs,SqL K H l xs->xs[i]? = some x,
  λi H=>∃xs,SqL K H l xs/\xs.length<=i⟩
theorem sS{P:aw}{w:ar}{K:aq}{es:List Expr}{ek:Nat}{epos:Pos}{e it l:Addr}(n1:e≠it)(n2:l≠e)(n3:l≠it) :
  Turn P w K (.Tuple es ek epos) (Ite K l) [e,it] e (λi h=>(∃old,IsEnum h e it ((i:Nat):Int) old)/\h.IsListIter it l i) where
 mem:=by simp
 obj:=λi h st b hb=>by
  obtain⟨⟨old,hz⟩,o1,e1,_,d1⟩:=st;have hb':b=e\/b=it:=by simpa using hb
  rcases hb' with q|q
  ·subst q;exact⟨_,hz,λv q=>by cases q⟩
  ·subst q;exact⟨o1,e1,λv q=>by rw[d1]at q;cases q⟩
 keep:=λi h h' st k=>by
  obtain⟨⟨old,hz⟩,h1⟩:=st;exact⟨⟨old,k e (by simp) _ hz⟩,h1.at λo q=>k it (by simp) o q⟩
 item:=by
  intro X hP hw hK hc i pins s σ H E I hf st hg;subst hP hw hK;obtain⟨⟨old,hz⟩,h1⟩:=st;obtain⟨xs,x,q1,hx⟩:=hg;obtain⟨its,r1,p1,z1⟩:=I.list q1;obtain⟨u1,hu1,ru1⟩:=r1.get hx;refine wpAny_pyNext_enum_item hz h1 p1.isList (x:=u1) (by simpa using hu1) n1 λh' a1 a2 a3 a4 hk=>?_
  have hkc:∀b o,b∉[e,it]->s.heap.get? b=some o->h'.get? b=some o:=λb o hb q=>hk b o (λz=>hb (by simp[z])) (λz=>hb (by simp[z])) q
  have I1:Inv X pins σ (upd H s.heap.objs.size (.tup [.int i,x])) {s with heap:=h',toks:=s.toks+1}:=I.turnNew (tk:=s.toks+1) (its:=[.int i s.toks,u1]) hf hkc (aC _) ⟨_,a3,rfl,_,rfl⟩ (.cons ⟨_,rfl⟩ (.cons ru1 .nil)) (by show 2<=aF;decide);have hpn:H s.heap.objs.size=none:=I.hok.fresh (aC _);have hfp:∀b∈[e,it],b≠s.heap.objs.size:=λb hb q=>by
   have hb':b=e\/b=it:=by simpa using hb
   obtain⟨o1,e1,_,d1⟩:=h1;have:b<s.heap.objs.size:=by
    rcases hb' with q|q
    ·subst q;exact aE hz
    ·subst q;exact aE e1
   rw[q]at this;exact bp _ this
  have hnone:∀b∈[e,it],(upd H s.heap.objs.size (.tup [.int i,x])) b=none:=λb hb=>by rw[qg (hfp b hb)];exact(hf b hb).1
  refine⟨_,rfl,?_⟩;refine wpAny_letOwnedTupleGo_enum (s:={s with heap:=h',toks:=s.toks+1}) a1 λh2' hz' hs'=>?_
  obtain⟨f0,f1,f2,f3,f4,f5⟩:=hf e (by simp);refine⟨.ref s.heap.objs.size,_,I1.turned (t':=s.toks+1) (it:=e) (λb o hb q=>(hs'.2 b hb).trans q) (hnone e (by simp)) f1 f3 f4 f5,rfl,⟨_,x,hpn,rfl,rfl,λzs hq=>by rw[I.list_inj hq q1];exact hx⟩,⟨⟨u1,?_⟩,a2.at λo q=>(hs'.2 it (Ne.symm n1)).trans q⟩,hnone⟩
  ·have:((i+1:Nat):Int)=(i:Int)+1:=by push_cast;rfl
   rw[this];exact hz'
 done:=by
  intro X hP hw hK hc i pins s σ H E I hf st hg;subst hP hw hK;obtain⟨⟨old,hz⟩,h1⟩:=st;obtain⟨xs,q1,hx⟩:=hg;obtain⟨its,r1,p1,z1⟩:=I.list q1;have hl:=r1.length;exact wpAny_pyNext_enum_end (I.ok.hd hc) hz h1 p1.isList (by simp;lia) λh' eb=>⟨rfl,I.turnAll (tk:=s.toks) hf λb o hb q=>eb b o (λz=>hb (by simp[z])) q⟩
 self:=λ_ _ _ _ _ st h=>by
  obtain⟨⟨old,hz⟩,_⟩:=st;exact wpAny_pyIter_enum hz h
noncomputable def m4(K:aq)(ta:TA):TI:=λσ H R=>ta σ H λvs H1=>∃(l:Addr),vs=[.ref l]/\(∃xs,SqL K H1 l xs)/\R (Ite K l) H1
theorem mf{X:Cx}{es:List Expr}{ek:Nat}{epos p pos:Pos}{a:Expr}{ta:TA}(hg:Gl X "enumerate")(hm:X.mg "enumerate" = none)(hv:bg "enumerate" = some (.type "enumerate"))(ha:PA X [a] ta)
  (hs:aK [a] X.env=[(false,eval a X.env)]:=by rfl):PI X (.Tuple es ek epos) (.Call (.Name "enumerate" p) [a] [] pos) (m4 X.K ta):=by
 intro pins s σ H R I h;refine Call_ (et I hg hm hv (PyProof.Rows.callWith_type1 (thn (ha pos pins s σ H _ I h) λus s1 ⟨vs,H1,I1,r1,q1⟩=>?_) (by rw[hs];rfl) (by rfl)));obtain⟨l,e,⟨xs,q2⟩,q⟩:=q1;subst e;cases r1 with
 |cons r rr=>
  cases rr;cases r;obtain⟨its1,v1,p1,_⟩:=I1.list q2;have lt1:l<s1.heap.objs.size:=by obtain⟨_,e,_⟩:=p1.isList;exact aE e
  refine call_enumerate_list p1.isList λh' hE hI hsz k=>?_
  have I2:Inv X pins σ H1 {s1 with heap:=h'}:=I1.kept (t':=s1.toks) k;refine wpAny_pyIter_enum hE ?_;refine⟨_,_,_,_,H1,rfl,I2,sS (P:=X.prog) (w:=X.w) (K:=X.K) (e:=s1.heap.objs.size+1) (it:=s1.heap.objs.size) (l:=l) (Nat.succ_ne_self _) (aU (Nat.lt_succ_of_lt lt1)) (aU lt1),⟨⟨_,hE⟩,hI⟩,λb hb=>?_,q⟩;have hb':b=s1.heap.objs.size+1\/b=s1.heap.objs.size:=by simpa using hb
  have:s1.heap.objs.size<=b:=by
   rcases hb' with q|q
   ·rw[q];exact Nat.le_succ _
   ·rw[q];exact aC _
  exact I1.fpOk this (I1.hok.fresh this)
end L2
namespace L2
open PySem PySem.Spec PyProof.Rows PySem.SeqAt
mutual
inductive cH(K:aq)(H:Hp):V->PyData->Prop
 |non:cH K H .non .none
 |bl (b:Bool):cH K H (.bl b) (.bool b)
 |int (i:Int):cH K H (.int i) (.int i)
 |str (x:Str):cH K H (.str x) (.str x)
 |lst {a:Addr}{xs:List V}{ds:List PyData}:SqL K H a xs->dW K H xs ds->cH K H (.ref a) (.list ds)
 |tup {a:Addr}{xs:List V}{ds:List PyData}:SqT K H a xs->dW K H xs ds->cH K H (.ref a) (.tuple ds)
inductive dW(K:aq)(H:Hp):List V->List PyData->Prop
 |nil:dW K H [] []
 |cons {x:V}{xs:List V}{d:PyData}{ds:List PyData}:cH K H x d->dW K H xs ds->dW K H (x::xs) (d::ds)
end
section
variable{X:Cx}{pins:List (Addr×Obj)}{σ:St}{H:Hp}{s:af}
theorem Inv.reads(I:Inv X pins σ H s){x:V}{d:PyData}(h:cH X.K H x d):∀{u:ae},RelV x u->∃as,Reads s.heap u d as:=
 h.rec (motive_1:=λx d _=>∀{u:ae},RelV x u->∃as,Reads s.heap u d as) (motive_2:=λxs ds _=>∀{us:List ae},Vals xs us->∃as,ReadsAll s.heap us ds as) (λr=>by cases r;exact⟨_,.none⟩) (λb _ r=>by cases r;exact⟨_,.bool b⟩) (λi _ r=>by obtain⟨t,rfl⟩:=r;exact⟨_,.int i t⟩) (λx _ r=>by obtain⟨t,rfl⟩:=r;exact⟨_,.str x t⟩)
  (λh _ g _ r=>by
   cases r;obtain⟨its,rv,pl,_⟩:=I.list h;obtain⟨as,ra⟩:=g rv;obtain⟨o,ho,hc,n,hd⟩:=pl.isList;exact⟨_,Reads.list ho hc hd (by simpa using ra)⟩)
  (λh _ g _ r=>by
   cases r;obtain⟨its,rv,pl,_⟩:=I.tuple h;obtain⟨as,ra⟩:=g rv;obtain⟨o,ho,hc,n,hd⟩:=pl;exact⟨_,Reads.tuple ho hc hd (by simpa using ra)⟩)
  (λr=>by cases r;exact⟨_,.nil⟩) (λ_ _ a b _ r=>by
   cases r with
   |cons r1 r2=>
    obtain⟨as,ra⟩:=a r1;obtain⟨bs,rb⟩:=b r2;exact⟨_,.cons ra rb⟩)
end
section
variable{X:Cx}
end
end L2
namespace L2
open PySem PySem.Spec PyProof.Rows
section
variable{lt:Nat->Nat->Bool}
noncomputable def Asc(lt:Nat->Nat->Bool)(p:Array Nat)(m:Nat):Prop:=∀i j,i<j->j<m->lt (p.getD j 0) (p.getD i 0)=false
end
section
variable{lt:Nat->Nat->Bool}
structure Part(lt:Nat->Nat->Bool)(p:Array Nat)(r:Nat×Array Nat):Prop where
 perm:r.2.Perm p
 size:r.2.size=p.size
 lo:1<=r.1
 hi:r.1<=p.size
 asc:Asc lt r.2 r.1
end
end L2
namespace HT
open PySem PySem.Spec PyProof.Rows L2
section
variable{prog:aw}{w:ar}{A:av}{E:ae->af->Prop}{s:af}
theorem m8{t sl:Addr}{items:Array ae}{vl vu:ae}{lo hi:Option Int}{Q:ae->af->Prop}(ht:IsTup s.heap t items)(hs:s.heap.IsSliceOf sl vl vu .none)(pl:IsPart vl lo)(pu:IsPart vu hi)
  (h0:sIx items.size 0 lo=0) (h1:sIx items.size items.size hi=items.size) (h:Q (.ref t) s):ak (ao prog w) A (getItem (.ref t) (.ref sl)) Q E s:=by
 have sk:s.TypeIs (.ref sl) "slice":=by obtain⟨o,a,b,_⟩:=id hs;exact⟨o,a,b⟩
 unfold getItem
 try with_reducible refine wpAny_holding ?_
 first|refine au (aD ?_)|skip
 have ty:=ht.typeIs;apply au;apply wpAny_sequenceKey ty (by decide);apply au;apply wpAny_callSpecial?_slot (name:=ag "__getitem__") ty slot_tuple_getitem;refine wpAny_call_entry slot_tuple_getitem ty entry_tuple_getitem ?_ (args_tuple_getitem _ _);show ak _ _ (Builtin.Tuple.tupleItemsOf (.ref t)>>=_) _ _ s;apply au;apply tupleItemsOf_ ht;apply au;apply wpAny_typeOf sk;rw[if_pos (by decide)];apply au;apply ju hs pl pu;have yes:(((sIx items.size 0 lo:Nat):Int)==0&&(1:Int)==1&&(sIx items.size items.size hi-sIx items.size 0 lo)==items.size)=true:=by
  rw[h0,h1];simp
 show ak _ _ (if (((sIx items.size 0 lo:Nat):Int)==0&&(1:Int)==1&&(sIx items.size items.size hi-sIx items.size 0 lo)==items.size)=true then _ else _) _ _ s;rw[if_pos yes];apply au;unfold Builtin.Tuple.tupleIsExact;refine au (wpAny_typeOf ty (aD ?_));rw[if_pos (by rfl)];exact au (wpAny_rule (aD ⟨_,rfl,aD h⟩))
end
end HT
namespace L2
open PySem PySem.Spec PyProof.Rows
noncomputable def pQ(K:aq):V->Option Int->Option Int->Hp->VK->Prop:=λx lo hi H Q=>∃a xs,x=.ref a/\SqT K H a xs/\HT.sIx xs.length 0 lo=0/\HT.sIx xs.length xs.length hi=xs.length/\Q x H
theorem uY{X:Cx}:SlR X (pQ X.K):=by
 intro pins s σ H x v vl vu lo hi sl Q I rx hs pl pu ⟨a,xs,e,hx,h0,h1,q⟩;subst e;have rx':=rx;cases rx;obtain⟨its,r,ht,hz⟩:=I.tuple hx;have hl:its.toArray.size=xs.length:=by rw[aN];exact r.length.symm
 exact⟨"tuple",_,slot_tuple_getitem.lookup,ht.typeIs,HT.m8 ht hs pl pu (by rw[hl];exact h0) (by rw[hl];exact h1) ⟨.ref a,H,I,rx',q⟩⟩
noncomputable def p_(K:aq)(C:Addr)(n:Nat)(tb:TS)(Eh:XK)(ts:TS):TS:=λD σ H=>tb {D with nx:=D.nx} σ H /\
 ∀(τ:St) (cls:ae) (H':Hp),τ.length=n->Eh cls none H'->bj K cls (.ref C)=some true/\ts {nx:=λ_ _=>False,rt:=D.rt} τ H'
theorem uN{X:Cx}{C:Addr}{cn:Str}{np hpos pos:Pos}{body:List Stmt}{b₀:Stmt}{suite:List Stmt}{tb ts:TS}{Eh:XK}(hex:X.ex=[])(hst:X.stack=X.env::X.outer)(hfr:X.env.frame=some X.env.locals)
  (hg:Gl X cn) (hm:X.mg cn=some (.ref C))
  (hb:∀pn Et,Passes (CX1 X.prog X.w) (X.inTry pn Et) Eh->PSs (X.inTry pn Et) body tb) (hs:∀x,PSs (X.held x) (b₀::suite) ts) (hd:(cn==("__debug__" : Str))=false:=by decide) :
  PS X (.Try body [.ExceptHandler (some (.Name cn np)) none (b₀::suite) hpos] [] [] pos) (p_ X.K C X.N.length tb Eh ts):=by
 intro pins s σ H D I h;obtain⟨h1,h2⟩:=h;refine wpAny_Try_except ?_;have okT:∀Et,(X.inTry (X.pn++pins) Et).Ok:=λEt=>
  ⟨I.ok.mod,I.ok.kind,I.ok.glob,I.ok.blt,I.ok.above,I.ok.inj,I.ok.has,I.ok.cab,I.ok.hd,I.ok.frames,I.ok.stk,I.ok.exf,I.ok.bs,I.ok.bsz,I.ok.noex,I.ok.exfs,I.ok.funs,I.ok.frf⟩
 have toT:∀{Et σ H s},Inv X pins σ H s->Inv (X.inTry (X.pn++pins) Et) [] σ H s:=λ{Et σ H s} J=>
  ⟨okT Et,J.os,J.bare,J.base,J.loc,J.cell,J.free,J.freeC,λp hp=>J.pin p (by simpa using hp),J.hok,J.len⟩
 have ofT:∀{Et pins' σ H s},Inv (X.inTry (X.pn++pins) Et) pins' σ H s->Inv X pins σ H s:=λ{Et pins' σ H s} J=>
  ⟨I.ok,J.os,J.bare,J.base,J.loc,J.cell,J.free,J.freeC,λp hp=>J.pin p (List.mem_append_left _ hp),J.hok,J.len⟩
 have hP:Passes (CX1 X.prog X.w) (X.inTry (X.pn++pins) λe s₁=>ak (ao X.prog X.w) X.A (noteFrame e X.env) (λ_ s₂=>ak (ao X.prog X.w) X.A (setFlight e none) (λ_ s₃=>
   ak (ao X.prog X.w) X.A (handleBy e X.env [.ExceptHandler (some (.Name cn np)) none (b₀::suite) hpos]) (SP X pins D) X.xe s₃) X.xe s₂) X.xe s₁) Eh:=by
  intro pins' σ' H' s' e s'' I' hcx;obtain⟨x,cls,H2,rfl,I2,F2,q⟩:=fV (X:=X.inTry (X.pn++pins) _) rfl rfl I' hex hcx;have I3:Inv X pins σ' H2 s'':=ofT I2;have ap:∀{Et b},Apart (X.inTry (X.pn++pins) Et) pins' H2 b->Apart X pins H2 b:=λ{Et b} a=>⟨a.new,a.free,λp hp=>a.pin p (List.mem_append_left _ hp)⟩
  have F3:bA X pins H2 s''.heap x cls:=by
   obtain⟨oe,vs,T,oT,ts,a0,e1,e2,e3,e4,e5,e6,e7,e8,e9,e10⟩:=F2.tr;exact⟨ap F2.me,oe,vs,T,oT,ts,a0,e1,e2,e3,e4,e5,e6,e7,e8,e9,ap e10⟩
  obtain⟨oe,vs,_,_,_,_,e1,_,_,e4,_⟩:=id F3.tr;obtain⟨T,oT,tts,a0,W,hT,hTd,aT⟩:=bA.flying I3 F3;have hfrm:=I.ok.frames;rw[hst]at hfrm W;refine wpAny_looks_onW hfrm hfr W λh4 W4 u4=>?_
  refine wpAny_landsW W4 λh5 W5 u5=>?_
  rw[<-hst]at W5;obtain⟨I5,F5⟩:=bA.back I3 hex F3.me e1 e4 hT hTd aT W5 (u4.trans u5);obtain⟨oe5,vs5,T5,oT5,ts5,a5,g1,g2,g3,g4,g5,g6,g7,g8,g9,g10⟩:=id F5.tr;obtain⟨hx1,hx2⟩:=h2 σ' cls H2 I3.len q;have LT:PySem.W.Looks (ao X.prog X.w) h5 (typeOf (.ref x)) cls:=by
   subst g2;exact(PySem.W.Looks.ld g1).andThen .now
  refine wpAny_handleBy_cons (codeAny_handlers_test (eB (I5.hold x) hg hm ?_ hd)) (by intro z;cases z);refine PySem.W.exm_one (K:=X.K) I5.kIn LT hx1 _ _ _ _ (λ_ _ e=>e) ?_;refine codeAny_handlers_suite ?_;obtain⟨T6,oT6,ts6,a6,W6,hT6,hTd6,aT6⟩:=bA.flying I5 F5;refine lands_againW W6 λh6 W6' u6=>?_
  obtain⟨I6,F6⟩:=bA.back I5 hex F5.me g1 g4 hT6 hTd6 aT6 W6' u6;refine bq (hs x pins _ _ _ _ (I6.hold x) hx2) (λf s9 r9=>?_) λ_ _ z=>aJ z
  cases f with
  |ret u=>
   obtain⟨v,σ9,H9,I9,rv,q9⟩:=r9;exact⟨v,_,H9,I9.unhold I.ok,rv,q9⟩
  |next=>obtain⟨_,_,_,z⟩:=r9;exact aJ z
  |brk=>obtain⟨_,_,_,z⟩:=r9;exact aJ z
  |cont=>obtain⟨_,_,_,z⟩:=r9;exact aJ z
 refine thn (hb _ _ hP [] s σ H _ (toT I) h1) λf s1 q=>?_
 cases f with
 |next=>obtain⟨σ1,H1,I1,q1⟩:=q;exact wpAny_execs_nil ⟨σ1,H1,ofT I1,q1⟩
 |brk=>obtain⟨σ1,H1,I1,q1⟩:=q;exact⟨σ1,H1,ofT I1,q1⟩
 |cont=>obtain⟨σ1,H1,I1,q1⟩:=q;exact⟨σ1,H1,ofT I1,q1⟩
 |ret u=>obtain⟨v,σ1,H1,I1,rv,q1⟩:=q;exact⟨v,σ1,H1,ofT I1,rv,q1⟩
section
variable{X:Cx}
end
section
variable{X:Cx}{tg:Expr}
end
noncomputable def cK(sep:Str):List Str->Str
 | [p]=>p
 |l=>Builtin.Str.glued sep l
noncomputable def wY(i:Int)(t:Str):Str:=(Str.empty++(toString i:String))++t
noncomputable def bN(i:Int)(t:Str)(j:Int):Str:=wY i t++(toString j:String)
theorem wR{ys:List Str}:∀{us:List ae},Vals (ys.map V.str) us->∃l:List (Str×Tok),us=strValues l/\l.map (·.1)=ys:=by
 induction ys with
 |nil=>intro us r;cases r;exact⟨[],rfl,rfl⟩
 |cons y ys ih=>
  intro us r;cases r with
  |cons h t=>
   obtain⟨l,rfl,e⟩:=ih t;obtain⟨tk,rfl⟩:=h;exact⟨(y,tk)::l,rfl,by rw[aY,e]⟩
theorem j4(k:Nat):∀(ys:List Str) (n:Nat),ys.foldl (· + ·.length+k) n=n+(ys.map (·.length)).sum+k * ys.length
 | [],n=>by simp
 |y::ys,n=>by
  rw[List.foldl_cons,j4 k ys,aY,List.sum_cons,List.length_cons,Nat.mul_succ];lia
section
variable{X:Cx}
noncomputable def rJoin(K:aq):V->List V->Hp->VK->Prop:=λx vs H Q=>∃(sep:Str) (l:Addr) (ys:List Str),x=.str sep/\vs=[.ref l]/\SqL K H l (ys.map V.str)/\sep.length<=16/\(ys.map (·.length)).sum+ys.length<=100000/\Q (.str (cK sep ys)) H
theorem sY:MtR X "str.join" (rJoin X.K):=by
 intro pins s σ H x vs v us Q I rx rv h;obtain⟨sep,l,ys,rfl,rfl,hH,h16,hz,q⟩:=h;obtain⟨t,rfl⟩:=rx;obtain⟨u,rfl,ru⟩:=rv.one;cases ru;obtain⟨its,r,pl,_⟩:=I.list hH;obtain⟨ls,rfl,ey⟩:=wR r;have hl:Builtin.Str.tooLong ((ls.map (·.1)).toArray.foldl (· + ·.length+sep.length) 0)=false:=by
  have:(ls.map (·.1)).toArray.foldl (λ(n:Nat) (s:Str)=>n+s.length+sep.length) 0=(ls.map (·.1)).foldl (λ(n:Nat) (s:Str)=>n+s.length+sep.length) 0:=by simp
  rw[this,j4,ey,Builtin.Str.tooLong,decide_eq_false_iff_not,bh];have:=Nat.mul_le_mul_right ys.length h16;lia
 refine call_meets F.slot_str_join (typeIs_str _ _ _) F.entry_str_join (F.args_str_join_2 _ _) (meets_str_join_list sep t l ls hl) ⟨pl.isList,?_⟩;have sg:∀m:List Str,m=ys->(Builtin.Str.glued sep m).length<=sizeLine:=λm em=>by
  subst em;rw[size_glued,bh];have h1:=Nat.mul_le_mul_left (m.length-1) h16;lia
 subst ey
 match ls,sg,q with
 | [],sg,q=>exact⟨sg _ rfl,.str _,H,I.tok _,⟨_,rfl⟩,q⟩
 | [p],sg,q=>exact⟨.str _,H,I,⟨p.2,rfl⟩,q⟩
 |p::p'::r',sg,q=>exact⟨sg _ rfl,.str _,H,I.tok _,⟨_,rfl⟩,q⟩
noncomputable def pf(ta:TE)(t:Str)(tb:TE):TE:=λσ H Q=>ta σ H λx H1=>∃i:Int,x=.int i/\(i.natAbs.log2<1920/\((Str.empty++((toString i:String):Str))++t).length<=aF) /\
 tb σ H1 λy H2=>∃j:Int,y=.int j/\(j.natAbs.log2<1920/\(bN i t j).length<=aF)/\Q (.str (bN i t j)) H2
theorem vD{ea eb:Expr}{ta tb:TE}{t:Str}{k1}{p1 p2 p3 pos:Pos}(ha:PE X ea ta)(hb:PE X eb tb) :
  PE X (.JoinedStr [.FormattedValue ea (-1) none p1,.Constant (.str t) k1 p2,.FormattedValue eb (-1) none p3] pos) (pf ta t tb):=by
 intro pins s σ H Q I h;refine PyProof.Rows.JoinedStr_many ?_;refine PyProof.Rows.joinParts_cons (PyProof.Rows.FormattedValue_plain (thn (ha pins s σ H _ I h) λv s2 ⟨x,H2,I2,r2,q⟩=>?_));obtain⟨i,rfl,⟨l1,l2⟩,q⟩:=q;obtain⟨tk,rfl⟩:=r2;have z1:(Str.empty++(toString i:String)).length<=sizeLine:=by
  rw[strLen_append]at l2;lia
 have I3:Inv X pins σ H2 {s2 with toks:=s2.toks+1+1}:=I2.kept (t':=s2.toks+1+1) λb o e=>e
 refine PyProof.Rows.formatField_int_small l1 ⟨z1,?_⟩;refine PyProof.Rows.joinParts_cons (thn (iH pins _ σ H2 (λx H1=>x=.str t/\H1=H2) I3 ⟨rfl,rfl⟩) λv s4 ⟨x,H4,I4,r4,e1,e2⟩=>?_);subst e1 e2;obtain⟨tk,rfl⟩:=r4;refine⟨l2,?_⟩;refine PyProof.Rows.joinParts_cons (PyProof.Rows.FormattedValue_plain (thn (hb pins s4 σ H4 _ I4 q) λv s5 ⟨x,H5,I5,r5,q⟩=>?_));obtain⟨j,rfl,⟨l3,l4⟩,q⟩:=q;obtain⟨tk,rfl⟩:=r5;have I6:Inv X pins σ H5 {s5 with toks:=s5.toks+1+1}:=I5.kept (t':=s5.toks+1+1) λb o e=>e
 refine PyProof.Rows.formatField_int_small l3 ⟨l4,PyProof.Rows.joinParts_nil ?_ l4⟩;exact⟨.str _,H5,I6.kept (t':=s5.toks+1+1+1) λb o e=>e,⟨_,rfl⟩,q⟩
end
noncomputable def fB(kX:Str->Option aG)(NX NY:List Str)(cap:List (Option Nat))(scope:aH):Bool:=
 (scope.kind==.function)&&(scope.names.all λy=>(y.2 != .cell||scope.names.lookup y.1==some .cell)&&(y.2 != .local||scope.names.lookup y.1==some .local)&&(y.2 != .free||kX y.1==some .cell||kX y.1==some .free)) &&
 (cap.length==NY.length)&&(aZ cap.length).all λi=>match cap[i]? with
  |some (some j)=>(match NY[i]?,NX[j]? with
   |some x,some y=>x==y&&scope.names.lookup x==some .free&&(kX x==some .cell||kX x==some .free)
   |_,_=>false)
  |_=>true
theorem zR.of{X:Cx}{NY:List Str}{cap:List (Option Nat)}{scope:aH}(h:fB X.env.kindOf X.N NY cap scope=true):zR X NY cap scope:=by
 unfold fB at h;simp only[aB,List.all_eq_true,beq_iff_eq]at h;obtain⟨⟨⟨h1,h2⟩,h3⟩,h4⟩:=h;refine⟨h1,λy hy e=>?_,λy hy e=>?_,λy hy e=>?_,h3,λi j hc=>?_⟩
 ·have:=(h2 y hy).1.1;rw[e]at this
  simpa using this
 ·have:=(h2 y hy).1.2;rw[e]at this
  simpa using this
 ·have:=(h2 y hy).2;rw[e]at this
  simpa using this
 ·have hi:i<cap.length:=(List.getElem?_eq_some_iff.mp hc).1;have:=h4 i (List.mem_range.mpr hi);rw[hc]at this;dsimp only at this;split at this
  ·rename_i x y e1 e2
   simp only[aB,beq_iff_eq,bL]at this;obtain⟨⟨e3,e4⟩,e5⟩:=this;subst e3;exact⟨x,e1,e2,e4,e5⟩
  ·cases this
end L2
namespace WB
open PySem PySem.Spec PyProof.Rows L2
section
variable{P:aw}{w:ar}{K:aq}{mg:Str->Option ae}{base:Heap}{f g:Addr}{fd gd:a8}
theorem _root_.L2.Fun.ok1{x qual:Str}{st:Stmt}{f:Addr}{fd:a8}{N ps:List Str}{k:Nat}{sp:Sp}(F:Fun K x qual st f fd)(S:dE N ps (qR st))(len:∀vs H Q E,sp vs H Q E->vs.length=ps.length)
  (hbody:∀(cdv:ae) (A:av) (outer:List Env) (s:af) (H:Hp) (vs:List V) (Q:VK) (E:XK),bC k (A.deeper (envOfC qual (qR st) s.heap.objs.size f cdv))->sp vs H Q E ->
   ∃t,PSs (cf (CX1 P w) P w K mg base N qual (qR st) f cdv A outer s H E) (zF st) t/\t {nx:=λ_ H'=>Q .non H',rt:=Q} (start N vs) H):dj P w K mg base (CX1 P w) (k+1) f fd ps sp:=by
 obtain⟨oc,od,kV,doc,pm,an,cdv,ct,osl,rfl,lk,hcd⟩:=F.ex;exact ug lk hcd S len λA outer s H vs Q E hr hsp=>hbody cdv A outer s H vs Q E hr hsp
end
noncomputable def rj(H:Hp)(ps:List Addr)(ks:List (Int×Int)):Prop:=ps.length=ks.length/\∀(i:Nat) p k,ps[i]? = some p->ks[i]? = some k->H p=some (.tup [.int k.1,.int k.2])
structure Built(H0:Hp)(acc:Addr)(ks:List (Int×Int))(H:Hp):Prop where
 ex:∃ps:List Addr,H acc=some (.lst (ps.map V.ref))/\rj H ps ks
 same:∀b o,b≠acc->H0 b=some o->H b=some o
end WB
set_option genSizeOf false
set_option genSizeOfSpec false
namespace EV
open PySem L2
inductive D where
 |non|bl (b:Bool)|int (i:Int)|str (x:Str)|tup (xs:List D)|lst (xs:List D)|fn (x:Str)|exn (c:Str)|dic
inductive R(α:Type) where
 |ok (a:α)|ex (c:Str)|no
noncomputable def R.bind{α β:Type}:R α->(α->R β)->R β
 | .ok a,f=>f a
 | .ex c,_=>.ex c
 | .no,_=>.no
@[simp] theorem R.bind_ok{α β:Type}(a:α)(f:α->R β):(R.ok a).bind f=f a:=rfl
@[simp] theorem R.bind_ex{α β:Type}(c:Str)(f:α->R β):(R.ex c:R α).bind f=.ex c:=rfl
@[simp] theorem R.bind_no{α β:Type}(f:α->R β):(R.no:R α).bind f=.no:=rfl
inductive O2 where
 |add|sub|mul|fdiv|mod|pow|shl|shr|band|bor|bxor
 deriving DecidableEq
inductive C2 where
 |eq|ne|lt|le|gt|ge|isin|notin|is|isnot
 deriving DecidableEq
inductive B1 where
 |len|tuple|list|sorted|all|any|sum|min|max|abs|int|bool
 deriving DecidableEq
inductive Cl where
 |ty (n:String)|ex (x:Str)
 deriving DecidableEq
inductive Tg where
 |nm (i:Nat)|tp (is:List Nat)
mutual
inductive E where
 |var (i:Nat)|own (i:Nat)|con (d:D)|glb (x:Str)|fnv (x:Str)
 |op (o:O2) (a b:E)|neg (a:E)|inv (a:E)|not (a:E)|and (a b:E)|or (a b:E)
 |cmp (c:C2) (a b:E)|cmp2 (c c':C2) (a b d:E)|cmp3 (c c' c'':C2) (a b d e:E)
 |ite (t:T) (a b:E)
 |tup (es:Es)|lst (es:Es)
 |ix (a b:E)|sl (a:E) (lo hi:OE)
 |call (f:Str) (es:Es)|callE (f:E) (es:Es)
 |bi (b:B1) (es:Es)
 |rtup (a:It)|rlst (a:It)
 |isi (a:E) (c:Cl)
 |comp (it:It) (cap:List (Option Nat)) (tg:Tg) (t:T) (elt:E)
 |mth (ix:Bool) (a:E)
 |cnt (a b:E)
 |mxk (mx:Bool) (a:E)
 |dic
 |callo (f:Str) (es:Es)
 |comp2 (it:It) (cap:List (Option Nat)) (tg:Tg) (it2:It) (tg2:Tg) (t:T) (elt:E)
 |fst2 (t0:Str) (a:E) (t1:Str) (b:E) (t2:Str)
 |sset (ln:Bool) (a:E)
 |rev (a:E)
 |stri (a:E)
 |joi (sep:Str) (a:E)
 |fsm (a:E) (t:Str) (b:E)
 |sadd (a b:E)
inductive OE where
 |none|some (e:E)
inductive Es where
 |nil|cons (e:E) (es:Es)
inductive It where
 |seq (e:E)|rng (a:E)|rng2 (a b:E)|enum (e:E)|zip (a b:E)|rng3 (a b k:E)
inductive T where
 |yes|val (e:E)|cmp (c:C2) (a b:E)|cmp2 (c c':C2) (a b d:E)|and (a b:T)|or (a b:T)|not (a:T)
end
noncomputable def SZ:Nat:=1000000
noncomputable def small(j:Int):Bool:=decide (-(2^64)<j)&&decide (j<2^64)
noncomputable def opI:O2->Int->Int->R D
 | .add,i,j=>.ok (.int (i+j))
 | .sub,i,j=>.ok (.int (i-j))
 | .mul,i,j=>if small i||small j then .ok (.int (i * j))else .no
 | .fdiv,i,j=>if 0<j/\j<1000000000000000000000000000000 then .ok (.int (i/j))else .no
 | .mod,i,j=>if 0<j then .ok (.int (i%j))else .no
 | .pow,i,j=>if 0<=j/\j<=1000000/\i.natAbs<2^64 then .ok (.int (i^j.toNat))else .no
 | .shl,i,j=>if 0<=j/\j<=1000000/\i.natAbs<2^64 then .ok (.int (i * 2^j.toNat))else .no
 | .shr,i,j=>if 0<=j then .ok (.int (i/2^j.toNat))else .no
 | .band,i,j=>.ok (.int (Builtin.bitAnd i j))
 | .bor,i,j=>.ok (.int (Builtin.bitOr i j))
 | .bxor,i,j=>.ok (.int (Builtin.bitXor i j))
noncomputable def lp:D->Bool
 | .lst _=>true
 |_=>false
noncomputable def op2(o:O2):D->D->R D
 | .int i,.int j=>opI o i j
 | .tup xs,.tup ys=>if o=.add/\xs.length+ys.length<=SZ then .ok (.tup (xs++ys))else .no
 | .lst xs,.lst ys=>if o=.add/\xs.length+ys.length<=SZ then .ok (.lst (xs++ys))else .no
 |_,_=>.no
mutual
noncomputable def D.plain:D->Bool
 | .non=>true
 | .bl _=>true
 | .int _=>true
 | .str x=>PyData.strOk x
 | .tup xs=>plainAll xs
 | .lst xs=>plainAll xs
 | .fn _=>false
 | .exn _=>false
 | .dic=>false
noncomputable def plainAll:List D->Bool
 | []=>true
 |x::xs=>x.plain&&plainAll xs
end
mutual
noncomputable def D.deep:D->Nat
 | .tup xs=>dv xs+1
 | .lst xs=>dv xs+1
 |_=>0
noncomputable def dv:List D->Nat
 | []=>0
 |x::xs=>max x.deep (dv xs)
end
mutual
noncomputable def D.eqv:D->D->Bool
 | .non,.non=>true
 | .bl a,.bl b=>a==b
 | .bl a,.int j=>(if a then 1 else 0)==j
 | .int i,.bl b=>i==(if b then 1 else 0)
 | .int i,.int j=>i==j
 | .str x,.str y=>x==y
 | .tup xs,.tup ys=>eqvAll xs ys
 | .lst xs,.lst ys=>eqvAll xs ys
 |_,_=>false
noncomputable def eqvAll:List D->List D->Bool
 | [],[]=>true
 |x::xs,y::ys=>x.eqv y&&eqvAll xs ys
 |_,_=>false
end
noncomputable def D.asks(d:D):Bool:=d.plain&&decide (d.deep<=20)
mutual
noncomputable def D.noL:D->Bool
 | .non=>true
 | .bl _=>true
 | .int _=>true
 | .str _=>true
 | .tup xs=>jH xs
 |_=>false
noncomputable def jH:List D->Bool
 | []=>true
 |x::xs=>x.noL&&jH xs
end
noncomputable def ints?:List D->Option (List Int)
 | []=>some []
 | .int i::r=>(ints? r).map (i :: ·)
 |_=>none
noncomputable def bools?:List D->Option (List Bool)
 | []=>some []
 | .bl i::r=>(bools? r).map (i :: ·)
 |_=>none
noncomputable def seq?:D->Option (List D)
 | .tup xs=>some xs
 | .lst xs=>some xs
 |_=>none
noncomputable def cX:List Int->List Int->Bool
 | [],[]=>false
 | [],_::_=>true
 |_::_,[]=>false
 |a::r,b::t=>if a=b then cX r t else decide (a<b)
noncomputable def fW(c:C2)(i j:Int):Option Bool:=
 match c with
 | .lt=>some (decide (i<j))
 | .le=>some (decide (i<=j))
 | .gt=>some (decide (j<i))
 | .ge=>some (decide (j<=i))
 | .eq=>some (decide (i=j))
 | .ne=>some (!decide (i=j))
 |_=>none
noncomputable def inD(x:D)(xs:List D):Bool:=xs.any λy=>y.eqv x
noncomputable def fg:D->Bool
 | .non=>true
 |_=>false
noncomputable def isB(n:Bool):D->D->R Bool
 | .bl a,.bl b=>.ok (n != (a==b))
 |_,_=>.no
noncomputable def qw:C2->D->D->R Bool
 | .is,a,b=>if fg b then .ok (fg a)else isB false a b
 | .isnot,a,b=>if fg b then .ok (!fg a)else isB true a b
 | .isin,a,b=>match seq? b with
  |some xs=>if a.asks&&xs.all D.asks then .ok (inD a xs)else .no
  |none=>.no
 | .notin,a,b=>match seq? b with
  |some xs=>if a.asks&&xs.all D.asks then .ok (!inD a xs)else .no
  |none=>.no
 | .eq,a,b=>if a.asks&&b.asks then .ok (a.eqv b)else .no
 | .ne,a,b=>if a.asks&&b.asks then .ok (!a.eqv b)else .no
 | .lt,.tup xs,.tup ys=>match ints? xs,ints? ys with
  |some ns,some ms=>.ok (cX ns ms)
  |_,_=>.no
 |c,.int i,.int j=>match fW c i j with
  |some b=>.ok b
  |none=>.no
 |_,_,_=>.no
noncomputable def truth:D->R Bool
 | .non=>.ok false
 | .bl b=>.ok b
 | .int i=>.ok (i != 0)
 | .tup xs=>.ok (!xs.isEmpty)
 | .lst xs=>.ok (!xs.isEmpty)
 |_=>.no
noncomputable def ixD:D->D->R D
 | .tup xs,.int i=>match atI xs i with|some d=>.ok d|none=>.no
 | .lst xs,.int i=>match atI xs i with|some d=>.ok d|none=>.no
 |_,_=>.no
noncomputable def cutD(xs:List D)(lo hi:Option Int):List D:=(xs.drop (HT.sIx xs.length 0 lo)).take (HT.sIx xs.length xs.length hi-HT.sIx xs.length 0 lo)
noncomputable def slD:D->Option Int->Option Int->R D
 | .tup xs,lo,hi=>.ok (.tup (cutD xs lo hi))
 | .lst xs,lo,hi=>.ok (.lst (cutD xs lo hi))
 |_,_,_=>.no
noncomputable def pairD(p:Int×Int):D:=.tup [.int p.1,.int p.2]
noncomputable def cm(d:D)(k:List D->R D):R D:=match d with | .lst xs=>k xs|_=>.no
noncomputable def iiR(d e:D)(k:Int->Int->R D):R D:=match d,e with | .int i,.int j=>k i j|_,_=>.no
noncomputable def bP{α β:Type}(o:Option α)(k:α->R β):R β:=match o with|some a=>k a|none=>.no
noncomputable def b11(b:B1)(d:D):R D:=match b with
 | .len=>bP (seq? d) λxs=>.ok (.int xs.length)
 | .tuple=>bP (seq? d) λxs=>.ok (.tup xs)
 | .list=>bP (seq? d) λxs=>.ok (.lst xs)
 | .all=>cm d λxs=>bP (bools? xs) λbs=>.ok (.bl (bs.all id))
 | .any=>cm d λxs=>bP (bools? xs) λbs=>.ok (.bl (bs.any id))
 | .sorted=>.no
 | .abs=>.no
 | .int=>.no
 | .bool=>.no
 | .min=>.no
 | .max=>.no
 | .sum=>.no
noncomputable def b12(b:B1)(d e:D):R D:=match b with
 | .min=>iiR d e λi j=>.ok (.int (if j<i then j else i))
 | .max=>iiR d e λi j=>.ok (.int (if j>i then j else i))
 |_=>.no
noncomputable def gb(ix:Bool)(x:D):R D:=cm x λxs=>bP (bools? xs) λbs=>if ix then bP (bs.findIdx? id) λj=>.ok (.int (j:Int))else .ok (.int ((bs.countP id:Nat):Int))
noncomputable def k_(ln:Bool)(d:D):R D:=.no
noncomputable def b1(b:B1):List D->R D
 | [d]=>b11 b d
 | [d,e]=>b12 b d e
 |_=>.no
noncomputable def tyD:D->Option String
 | .non=>some "NoneType"
 | .bl _=>some "bool"
 | .int _=>some "int"
 | .str _=>some "str"
 | .tup _=>some "tuple"
 | .lst _=>some "list"
 | .dic=>some "dict"
 |_=>none
noncomputable def zo(lo:Int)(n:Nat):List D:=(aZ n).map λ(i:Nat)=>.int (lo+(i:Int))
noncomputable def cq:Nat->List D->List D
 |_,[]=>[]
 |k,x::r=>.tup [.int k,x]::cq (k+1) r
noncomputable def qi(j:Int):Bool:=decide (-1000000<=j)&&decide (j<=1000000)
abbrev Env:=List (Option D)
structure W where
 call:Str->List D->R D
 glb:Str->Option D
 sub:Str->Cl->Option Bool
 cat:Str->Str->Bool
noncomputable def bD(w:W)(x:D)(c:Cl):R D:=match tyD x,c with
 |some t,.ty n=>if n = "ValueError" then .no else .ok (.bl (dM t n))
 |none,c=>match x with
  | .exn k=>match w.sub k c with|some b=>.ok (.bl b)|none=>.no
  |_=>.no
 |_,_=>.no
noncomputable def bE(τ:Env)(i:Nat):R D:=match τ[i]? with
 |some (some d)=>.ok d
 |_=>.no
noncomputable def setAll:List Nat->List D->Env->R Env
 | [],[],τ=>.ok τ
 |i::is,d::ds,τ=>setAll is ds (τ.set i (some d))
 |_,_,_=>.no
noncomputable def store:Tg->D->Env->R Env
 | .nm i,d,τ=>.ok (τ.set i (some d))
 | .tp is,.tup ds,τ=>if ds.length=is.length then setAll is ds τ else .no
 |_,_,_=>.no
noncomputable def cc(cap:List (Option Nat))(τ:Env):Env:=cap.map λo=>o.bind λj=>(τ[j]?).join
noncomputable def noEx{α:Type}:R α->R α
 | .ok a=>.ok a
 |_=>.no
noncomputable def zC(body:D->Env->R (Env×List D)):List D->Env->List D->R (List D)
 | [],_,acc=>.ok acc
 |x::r,τ,acc=>(body x τ).bind λp=>zC body r p.1 (acc++p.2)
abbrev zt(i:Int):Str:=(toString i:String)
noncomputable def iR{α:Type}(x:D)(f:Int->R α):R α:=match x with
 | .int i=>f i
 |_=>.no
noncomputable def sR{α:Type}(x:D)(f:Str->R α):R α:=match x with
 | .str i=>f i
 |_=>.no
noncomputable def cP(x:D):R D:=iR x λi=>if qi i then .ok (.str (zt i))else .no
noncomputable def strs?:List D->Option (List Str)
 | []=>some []
 |d::r=>match d with
  | .str x=>(strs? r).map (x :: ·)
  |_=>none
noncomputable def dq(sep:Str)(x:D):R D:=cm x λxs=>bP (strs? xs) λys=>if decide (sep.length<=16)&&decide ((ys.map (·.length)).sum+ys.length<=100000)then .ok (.str (cK sep ys))else .no
noncomputable def cQ(x y:D):R D:=sR x λi=>sR y λj=>if i.length+j.length<=SZ then .ok (.str (i++j))else .no
mutual
noncomputable def evE(w:W):E->Env->R D
 | .var i,τ=>bE τ i
 | .own i,τ=>bE τ i
 | .con d,_=>.ok d
 | .glb x,_=>match w.glb x with|some d=>.ok d|none=>.no
 | .fnv x,_=>.no
 | .op o a b,τ=>(evE w a τ).bind λx=>(evE w b τ).bind λy=>op2 o x y
 | .neg a,τ=>(evE w a τ).bind λx=>match x with | .int i=>.ok (.int (-i))|_=>.no
 | .inv a,_=>.no
 | .not a,τ=>(evE w a τ).bind λx=>match x with | .bl b=>.ok (.bl (!b))|_=>.no
 | .and a b,τ=>(evE w a τ).bind λx=>match x with | .bl true=>evE w b τ | .bl false=>.ok (.bl false)|_=>.no
 | .or a b,τ=>(evE w a τ).bind λx=>match x with | .bl true=>.ok (.bl true) | .bl false=>evE w b τ|_=>.no
 | .cmp c a b,τ=>(evE w a τ).bind λx=>(evE w b τ).bind λy=>(qw c x y).bind λr=>.ok (.bl r)
 | .cmp2 c c' a b d,τ=>(evE w a τ).bind λx=>(evE w b τ).bind λy=>(qw c x y).bind λr=>if r then (evE w d τ).bind λz=>(qw c' y z).bind λr'=>.ok (.bl r')else .ok (.bl false)
 | .cmp3 c c' c'' a b d e,τ=>(evE w a τ).bind λx=>(evE w b τ).bind λy=>(qw c x y).bind λr=>if r then (evE w d τ).bind λz=>(qw c' y z).bind λr'=>if r' then (evE w e τ).bind λu=>(qw c'' z u).bind λr''=>.ok (.bl r'')else .ok (.bl false)else .ok (.bl false)
 | .ite t a b,τ=>(evT w t τ).bind λr=>if r then evE w a τ else evE w b τ
 | .tup es,τ=>(zj w es τ).bind λds=>.ok (.tup ds)
 | .lst es,τ=>(zj w es τ).bind λds=>.ok (.lst ds)
 | .ix a b,τ=>(evE w a τ).bind λx=>(evE w b τ).bind λy=>ixD x y
 | .sl a lo hi,τ=>(evE w a τ).bind λx=>(evO w lo τ).bind λl=>(evO w hi τ).bind λh=>slD x l h
 | .call f es,τ=>(zj w es τ).bind λds=>w.call f ds
 | .callE f es,_=>.no
 | .bi b es,τ=>(zj w es τ).bind λds=>b1 b ds
 | .rtup a,τ=>(evI w a τ).bind λds=>.ok (.tup ds)
 | .rlst a,τ=>(evI w a τ).bind λds=>.ok (.lst ds)
 | .isi a c,τ=>(evE w a τ).bind λx=>bD w x c
 | .comp it cap tg t elt,τ=>(evI w it τ).bind λds=>if SZ<ds.length then .no else (zC (λx σ=>noEx ((store tg x σ).bind λσ'=>(evT w t σ').bind λr=>if r then (evE w elt σ').bind λd=>.ok (σ',[d])else .ok (σ',[]))) ds (cc cap τ) []).bind λout=>.ok (.lst out)
 | .mth ix a,τ=>(evE w a τ).bind λx=>gb ix x
 | .cnt a b,_=>.no
 | .mxk mx a,_=>.no
 | .dic,_=>.ok .dic
 | .callo f es,_=>.no
 | .comp2 it cap tg it2 tg2 t elt,_=>.no
 | .fst2 t0 a t1 b t2,_=>.no
 | .sset ln a,τ=>(evE w a τ).bind (k_ ln)
 | .rev a,_=>.no
 | .stri a,τ=>(evE w a τ).bind cP
 | .joi sep a,τ=>(evE w a τ).bind (dq sep)
 | .fsm a t b,τ=>(evE w a τ).bind λx=>iR x λi=>if qi i&&decide (((Str.empty++zt i)++t).length<=SZ)then (evE w b τ).bind λy=>iR y λj=>if qi j&&decide ((bN i t j).length<=SZ)then .ok (.str (bN i t j))else .no else .no
 | .sadd a b,τ=>(evE w a τ).bind λx=>(evE w b τ).bind λy=>cQ x y
noncomputable def evO(w:W):OE->Env->R (Option Int)
 | .none,_=>.ok none
 | .some e,τ=>(evE w e τ).bind λx=>match x with | .int i=>.ok (some i)|_=>.no
noncomputable def zj(w:W):Es->Env->R (List D)
 | .nil,_=>.ok []
 | .cons e es,τ=>(evE w e τ).bind λd=>(zj w es τ).bind λds=>.ok (d::ds)
noncomputable def evI(w:W):It->Env->R (List D)
 | .seq e,τ=>(evE w e τ).bind λx=>match seq? x with|some xs=>.ok xs|none=>.no
 | .rng a,τ=>(evE w a τ).bind λx=>match x with | .int j=>if qi j then .ok (zo 0 j.toNat)else .no|_=>.no
 | .rng2 a b,τ=>(evE w a τ).bind λx=>(evE w b τ).bind λy=>match x,y with | .int i,.int j=>if qi i&&qi j then .ok (zo i (j-i).toNat)else .no|_,_=>.no
 | .enum e,τ=>(evE w e τ).bind λx=>match x with | .lst xs=>.ok (cq 0 xs)|_=>.no
 | .zip a b,_=>.no
 | .rng3 a b k,_=>.no
noncomputable def evT(w:W):T->Env->R Bool
 | .yes,_=>.ok true
 | .val e,τ=>(evE w e τ).bind λx=>truth x
 | .cmp c a b,τ=>(evE w a τ).bind λx=>(evE w b τ).bind λy=>qw c x y
 | .cmp2 c c' a b d,τ=>(evE w a τ).bind λx=>(evE w b τ).bind λy=>(qw c x y).bind λr=>if r then (evE w d τ).bind λz=>qw c' y z else .ok false
 | .and a b,τ=>(evT w a τ).bind λr=>if r then evT w b τ else .ok false
 | .or a b,τ=>(evT w a τ).bind λr=>if r then .ok true else evT w b τ
 | .not a,τ=>(evT w a τ).bind λr=>.ok (!r)
end
theorem qV:∀{w i τ},@Eq (R D) (evE w (.var i) τ) (bE τ i):=rfl
theorem zd:∀{w i τ},@Eq (R D) (evE w (.own i) τ) (bE τ i):=rfl
theorem qX:∀{w d τ},@Eq (R D) (evE w (.con d) τ) (.ok d):=rfl
theorem qY:∀{w x τ},@Eq (R D) (evE w (.glb x) τ) (match w.glb x with|some d=>.ok d|none=>.no):=rfl
theorem zb:∀{w x τ},@Eq (R D) (evE w (.fnv x) τ) (.no):=rfl
theorem qU:∀{w o a b τ},@Eq (R D) (evE w (.op o a b) τ) ((evE w a τ).bind λx=>(evE w b τ).bind λy=>op2 o x y):=rfl
theorem qZ:∀{w a τ},@Eq (R D) (evE w (.neg a) τ) ((evE w a τ).bind λx=>match x with | .int i=>.ok (.int (-i))|_=>.no):=rfl
theorem ze:∀{w a τ},@Eq (R D) (evE w (.inv a) τ) (.no):=rfl
theorem zc:∀{w a τ},@Eq (R D) (evE w (.not a) τ) ((evE w a τ).bind λx=>match x with | .bl b=>.ok (.bl (!b))|_=>.no):=rfl
theorem ql:∀{w a b τ},@Eq (R D) (evE w (.and a b) τ) ((evE w a τ).bind λx=>match x with | .bl true=>evE w b τ | .bl false=>.ok (.bl false)|_=>.no):=rfl
theorem qB:∀{w a b τ},@Eq (R D) (evE w (.or a b) τ) ((evE w a τ).bind λx=>match x with | .bl true=>.ok (.bl true) | .bl false=>evE w b τ|_=>.no):=rfl
theorem qD:∀{w c a b τ},@Eq (R D) (evE w (.cmp c a b) τ) ((evE w a τ).bind λx=>(evE w b τ).bind λy=>(qw c x y).bind λr=>.ok (.bl r)):=rfl
theorem qx:∀{w c c' a b d τ},@Eq (R D) (evE w (.cmp2 c c' a b d) τ) ((evE w a τ).bind λx=>(evE w b τ).bind λy=>(qw c x y).bind λr=>if r then (evE w d τ).bind λz=>(qw c' y z).bind λr'=>.ok (.bl r')else .ok (.bl false)):=rfl
theorem qy:∀{w c c' c'' a b d e τ},@Eq (R D) (evE w (.cmp3 c c' c'' a b d e) τ) ((evE w a τ).bind λx=>(evE w b τ).bind λy=>(qw c x y).bind λr=>if r then (evE w d τ).bind λz=>(qw c' y z).bind λr'=>if r' then (evE w e τ).bind λu=>(qw c'' z u).bind λr''=>.ok (.bl r'')else .ok (.bl false)else .ok (.bl false)):=rfl
theorem qm:∀{w t a b τ},@Eq (R D) (evE w (.ite t a b) τ) ((evT w t τ).bind λr=>if r then evE w a τ else evE w b τ):=rfl
theorem qF:∀{w es τ},@Eq (R D) (evE w (.tup es) τ) ((zj w es τ).bind λds=>.ok (.tup ds)):=rfl
theorem qo:∀{w es τ},@Eq (R D) (evE w (.lst es) τ) ((zj w es τ).bind λds=>.ok (.lst ds)):=rfl
theorem qq:∀{w a b τ},@Eq (R D) (evE w (.ix a b) τ) ((evE w a τ).bind λx=>(evE w b τ).bind λy=>ixD x y):=rfl
theorem qE:∀{w a lo hi τ},@Eq (R D) (evE w (.sl a lo hi) τ) ((evE w a τ).bind λx=>(evO w lo τ).bind λl=>(evO w hi τ).bind λh=>slD x l h):=rfl
theorem qs:∀{w f es τ},@Eq (R D) (evE w (.call f es) τ) ((zj w es τ).bind λds=>w.call f ds):=rfl
theorem qJ:∀{w f es τ},@Eq (R D) (evE w (.callE f es) τ) (.no):=rfl
theorem qk:∀{w b es τ},@Eq (R D) (evE w (.bi b es) τ) ((zj w es τ).bind λds=>b1 b ds):=rfl
theorem qG:∀{w a τ},@Eq (R D) (evE w (.rtup a) τ) ((evI w a τ).bind λds=>.ok (.tup ds)):=rfl
theorem qM:∀{w a τ},@Eq (R D) (evE w (.rlst a) τ) ((evI w a τ).bind λds=>.ok (.lst ds)):=rfl
theorem qC:∀{w a c τ},@Eq (R D) (evE w (.isi a c) τ) ((evE w a τ).bind λx=>bD w x c):=rfl
theorem qr:∀{w it cap tg t elt τ},@Eq (R D) (evE w (.comp it cap tg t elt) τ) ((evI w it τ).bind λds=>if SZ<ds.length then .no else (zC (λx σ=>noEx ((store tg x σ).bind λσ'=>(evT w t σ').bind λr=>if r then (evE w elt σ').bind λd=>.ok (σ',[d])else .ok (σ',[]))) ds (cc cap τ) []).bind λout=>.ok (.lst out)):=rfl
theorem qI:∀{w ix a τ},@Eq (R D) (evE w (.mth ix a) τ) ((evE w a τ).bind λx=>gb ix x):=rfl
theorem qH:∀{w a b τ},@Eq (R D) (evE w (.cnt a b) τ) (.no):=rfl
theorem qP:∀{w mx a τ},@Eq (R D) (evE w (.mxk mx a) τ) (.no):=rfl
theorem qt:∀{w τ},@Eq (R D) (evE w (.dic) τ) (.ok .dic):=rfl
theorem qQ:∀{w f es τ},@Eq (R D) (evE w (.callo f es) τ) (.no):=rfl
theorem qK:∀{w it cap tg it2 tg2 t elt τ},@Eq (R D) (evE w (.comp2 it cap tg it2 tg2 t elt) τ) (.no):=rfl
theorem qN:∀{w t0 a t1 b t2 τ},@Eq (R D) (evE w (.fst2 t0 a t1 b t2) τ) (.no):=rfl
theorem qO:∀{w ln a τ},@Eq (R D) (evE w (.sset ln a) τ) ((evE w a τ).bind (k_ ln)):=rfl
theorem qL:∀{w a τ},@Eq (R D) (evE w (.rev a) τ) (.no):=rfl
theorem qh:∀{w a τ},@Eq (R D) (evE w (.stri a) τ) ((evE w a τ).bind cP):=rfl
theorem qp:∀{w sep a τ},@Eq (R D) (evE w (.joi sep a) τ) ((evE w a τ).bind (dq sep)):=rfl
theorem qA:∀{w a t b τ},@Eq (R D) (evE w (.fsm a t b) τ) ((evE w a τ).bind λx=>iR x λi=>if qi i&&decide (((Str.empty++zt i)++t).length<=SZ)then (evE w b τ).bind λy=>iR y λj=>if qi j&&decide ((bN i t j).length<=SZ)then .ok (.str (bN i t j))else .no else .no):=rfl
theorem qu:∀{w a b τ},@Eq (R D) (evE w (.sadd a b) τ) ((evE w a τ).bind λx=>(evE w b τ).bind λy=>cQ x y):=rfl
theorem di:∀{w τ},@Eq (R Bool) (evT w (.yes) τ) (.ok true):=rfl
theorem dh:∀{w e τ},@Eq (R Bool) (evT w (.val e) τ) ((evE w e τ).bind λx=>truth x):=rfl
theorem du:∀{w c a b τ},@Eq (R Bool) (evT w (.cmp c a b) τ) ((evE w a τ).bind λx=>(evE w b τ).bind λy=>qw c x y):=rfl
theorem dt:∀{w c c' a b d τ},@Eq (R Bool) (evT w (.cmp2 c c' a b d) τ) ((evE w a τ).bind λx=>(evE w b τ).bind λy=>(qw c x y).bind λr=>if r then (evE w d τ).bind λz=>qw c' y z else .ok false):=rfl
theorem dr:∀{w a b τ},@Eq (R Bool) (evT w (.and a b) τ) ((evT w a τ).bind λr=>if r then evT w b τ else .ok false):=rfl
theorem cZ:∀{w a b τ},@Eq (R Bool) (evT w (.or a b) τ) ((evT w a τ).bind λr=>if r then .ok true else evT w b τ):=rfl
theorem c_:∀{w a τ},@Eq (R Bool) (evT w (.not a) τ) ((evT w a τ).bind λr=>.ok (!r)):=rfl
mutual
inductive S where
 |set (tg:Tg) (e:E)
 |app (i:Nat) (e:E)
 |seti (i:Nat) (k e:E)
 |exp (e:E)
 |ret (e:E)|retN
 |ite (t:T) (a b:Ss)
 |for (tg:Tg) (it:It) (b:Ss)
 |while (t:T) (b:Ss)
 |raise (c:Str) (es:Es)
 |try (b:Ss) (c:Str) (i:Option Nat) (h:Ss)
 |ins (i:Nat) (k e:E)
 |pass|brk|cnt|unk
 |par (i j:Nat) (a b:E)
 |par3 (i j k:Nat) (a b c:E)
inductive Ss where
 |nil|cons (s:S) (r:Ss)
end
inductive O where
 |nx (τ:Env)|rt (d:D)|bk (τ:Env)|ct (τ:Env)|ex (c:Str)|no
noncomputable def R.out{α:Type}:R α->(α->O)->O
 | .ok a,f=>f a
 | .ex c,_=>.ex c
 | .no,_=>.no
@[simp] theorem R.out_ok{α:Type}(a:α)(f:α->O):(R.ok a).out f=f a:=rfl
@[simp] theorem R.out_ex{α:Type}(c:Str)(f:α->O):(R.ex c:R α).out f=.ex c:=rfl
@[simp] theorem R.out_no{α:Type}(f:α->O):(R.no:R α).out f=.no:=rfl
noncomputable def bW(tg:Tg)(body:Env->O):List D->Env->O
 | [],τ=>.nx τ
 |x::r,τ=>(store tg x τ).out λτ'=>match body τ' with
  | .nx σ=>bW tg body r σ
  | .ct σ=>bW tg body r σ
  | .bk σ=>.nx σ
  |o=>o
noncomputable def O.noEx:O->O
 | .ex _=>.no
 |o=>o
noncomputable def O.rtOnly:O->O
 | .rt d=>.rt d
 |_=>.no
noncomputable def bQ(τ:Env)(i:Option Nat)(k:Str):Env:=match i with
 |none=>τ.map λ_=>none
 |some i=>(τ.map λ_=>none).set i (some (.exn k))
mutual
noncomputable def evS(w:W):S->Env->O
 | .set tg e,τ=>(evE w e τ).out λd=>(store tg d τ).out .nx
 | .app i e,τ=>(bE τ i).out λx=>(evE w e τ).out λd=>match x with
  | .lst xs=>if xs.length<SZ then .nx (τ.set i (some (.lst (xs++[d]))))else .no
  |_=>.no
 | .seti i k e,τ=>(evE w e τ).out λd=>(bE τ i).out λx=>(evE w k τ).out λn=>match x,n with
  | .lst xs,.int j=>match ixN xs.length j with
   |some m=>.nx (τ.set i (some (.lst (xs.set m d))))
   |none=>.no
  |_,_=>.no
 | .exp e,τ=>(evE w e τ).out λ_=>.nx τ
 | .ret e,τ=>(evE w e τ).out .rt
 | .retN,_=>.rt .non
 | .ite t a b,τ=>(evT w t τ).out λr=>if r then qe w a τ else qe w b τ
 | .for tg it b,τ=>((evI w it τ).out λds=>bW tg (λσ=>qe w b σ) ds τ).noEx
 | .while t b,_=>.no
 | .raise c es,τ=>(zj w es τ).out λ_=>.ex c
 | .try b c i h,τ=>match qe w b τ with
  | .ex k=>if w.cat k c=true then (qe w h (bQ τ i k)).rtOnly else .no
  |o=>o
 | .ins i k e,_=>.no
 | .unk,_=>.no
 | .pass,τ=>.nx τ
 | .brk,τ=>.bk τ
 | .cnt,τ=>.ct τ
 | .par i j a b,_=>.no
 | .par3 i j k a b c,_=>.no
noncomputable def qe(w:W):Ss->Env->O
 | .nil,τ=>.nx τ
 | .cons s r,τ=>match evS w s τ with
  | .nx σ=>qe w r σ
  |o=>o
end
theorem bM:∀{w tg e τ},@Eq (O) (evS w (.set tg e) τ) ((evE w e τ).out λd=>(store tg d τ).out .nx):=rfl
theorem zY:∀{w i e τ},@Eq (O) (evS w (.app i e) τ) ((bE τ i).out λx=>(evE w e τ).out λd=>match x with
  | .lst xs=>if xs.length<SZ then .nx (τ.set i (some (.lst (xs++[d]))))else .no
  |_=>.no):=rfl
theorem bS:∀{w i k e τ},@Eq (O) (evS w (.seti i k e) τ) ((evE w e τ).out λd=>(bE τ i).out λx=>(evE w k τ).out λn=>match x,n with
  | .lst xs,.int j=>match ixN xs.length j with
   |some m=>.nx (τ.set i (some (.lst (xs.set m d))))
   |none=>.no
  |_,_=>.no):=rfl
theorem zW:∀{w e τ},@Eq (O) (evS w (.exp e) τ) ((evE w e τ).out λ_=>.nx τ):=rfl
theorem zk:∀{w e τ},@Eq (O) (evS w (.ret e) τ) ((evE w e τ).out .rt):=rfl
theorem zZ:∀{w τ},@Eq (O) (evS w (.retN) τ) (.rt .non):=rfl
theorem zV:∀{w t a b τ},@Eq (O) (evS w (.ite t a b) τ) ((evT w t τ).out λr=>if r then qe w a τ else qe w b τ):=rfl
theorem zQ:∀{w tg it b τ},@Eq (O) (evS w (.for tg it b) τ) (((evI w it τ).out λds=>bW tg (λσ=>qe w b σ) ds τ).noEx):=rfl
theorem bR:∀{w t b τ},@Eq (O) (evS w (.while t b) τ) (.no):=rfl
theorem zE:∀{w c es τ},@Eq (O) (evS w (.raise c es) τ) ((zj w es τ).out λ_=>.ex c):=rfl
theorem zB:∀{w b c i h τ},@Eq (O) (evS w (.try b c i h) τ) (match qe w b τ with
  | .ex k=>if w.cat k c=true then (qe w h (bQ τ i k)).rtOnly else .no
  |o=>o):=rfl
theorem zL:∀{w i k e τ},@Eq (O) (evS w (.ins i k e) τ) (.no):=rfl
theorem zI:∀{w τ},@Eq (O) (evS w (.unk) τ) (.no):=rfl
theorem zN:∀{w τ},@Eq (O) (evS w (.pass) τ) (.nx τ):=rfl
theorem zM:∀{w τ},@Eq (O) (evS w (.brk) τ) (.bk τ):=rfl
theorem zJ:∀{w τ},@Eq (O) (evS w (.cnt) τ) (.ct τ):=rfl
theorem zO:∀{w i j a b τ},@Eq (O) (evS w (.par i j a b) τ) (.no):=rfl
theorem zH:∀{w i j k a b c τ},@Eq (O) (evS w (.par3 i j k a b c) τ) (.no):=rfl
structure Fn where
 ps:Nat
 N:Nat
 fr:Bool
 body:Ss
noncomputable def zP(w:W)(f:Fn)(ds:List D):R D:=if ds.length=f.ps then (match qe w f.body (ds.map some++bt (f.N-f.ps) none)with
  | .nx _=>if f.fr then .no else .ok .non
  | .rt d=>.ok d
  | .ex c=>.ex c
  |_=>.no)else .no
structure Pr where
 fns:Str->Option Fn
 glb:Str->Option D
 sub:Str->Cl->Option Bool
 cat:Str->Str->Bool
noncomputable def qa(p:Pr):Nat->Str->List D->R D
 | 0,_,_=>.no
 |k+1,x,ds=>match p.fns x with
  |some f=>zP ⟨qa p k,p.glb,p.sub,p.cat⟩ f ds
  |none=>.no
inductive GK where
  |fn (fresh:Bool)|val|bi (b:B1)|rng|enum|zip|isi|ty (n:String) (b:Option B1)|exc|exk|set
  deriving DecidableEq
structure Cc where
  nm:List (Str×aG)
  N:List Str
  own:List Str
  G:List (Str×GK)
  calm:Bool
  fnc:Bool
  thr:Bool
  GH:List (Str×GK)
  oc:List Str
  frz:Bool
noncomputable def loc(c:Cc)(x:Str):Option Nat:=
  if x == "__debug__" ||x == "__classdict__" then none else
  match c.nm.lookup x with
  |some .local|some .cell|some .free=>let i:=c.N.findIdx (· == x);if c.N[i]? = some x then some i else none
  |_=>none
noncomputable def b6(c:Cc)(x:Str):Option Nat:=
  match c.nm.lookup x with
  |some .local=>loc c x
  |some .cell=>if c.fnc||c.oc.contains x then loc c x else none
  |_=>none
noncomputable def glob(c:Cc)(x:Str):Option GK:=
  if x == "__debug__" ||x == "__name__" then none else
  match c.nm.lookup x with
  |some .globalImplicit=>c.G.lookup x
  |_=>none
noncomputable def esc:E->Bool
  | .own _=>false
  |_=>true
noncomputable def cF:Es->Bool
  | .nil=>true
  | .cons e es=>esc e&&cF es
noncomputable def isL:E->Bool
  | .lst _=>true
  | .rlst _=>true
  | .comp .. => true
  |_=>false
noncomputable def oF:O2->Bool
  | .add=>true
  | .mul=>true
  |_=>false
noncomputable def fresh(c:Cc):E->Bool
  | .op o a b=>oF o&&isL a||o==.add&&isL b
  | .lst _=>true
  | .rlst _=>true
  | .comp .. => true
  | .comp2 .. => true
  | .bi .list _=>true
  | .bi .sorted _=>true
  | .call f _=>c.G.lookup f==some (.fn true)
  |_=>false
noncomputable def o2:Operator->Option O2
  | .Add=>some .add
  | .Sub=>some .sub
  | .Mult=>some .mul
  | .FloorDiv=>some .fdiv
  | .Mod=>some .mod
  | .Pow=>some .pow
  | .RShift=>some .shr
  |_=>none
noncomputable def c2:CmpOp->C2
  | .Eq=>.eq
  | .NotEq=>.ne
  | .Lt=>.lt
  | .LtE=>.le
  | .Gt=>.gt
  | .GtE=>.ge
  | .Is=>.is
  | .IsNot=>.isnot
  | .In=>.isin
  | .NotIn=>.notin
noncomputable def cV:Expr->Bool
  | .ListComp .. => true
  | .SetComp .. => true
  | .DictComp .. => true
  |_=>false
noncomputable def zl:Expr->Bool
  | .Set .. => false
  |_=>true
noncomputable def fC(names nm:List (Str×aG)):List (Str×aG):=names.map λ(n,k)=>if k==bu&&(nm.lookup n==some .cell)then (n,aG.cell)else (n,k)
noncomputable def zU(names:List (Str×aG)):List Str:=(names.filter λp=>p.2==.local||p.2==.free||p.2==.cell).map (·.1)
noncomputable def eA(c:Cc)(names:List (Str×aG)):List (Option Nat):=(zU names).map λx=>if names.lookup x==some .free then loc c x else none
noncomputable def eh:List Expr->Option (List Str)
  | []=>some []
  | .Name x _::r=>(eh r).map (x :: ·)
  |_=>none
noncomputable def cTg(c:Cc):Expr->Option Tg
  | .Name x _=>if c.own.contains x then none else (b6 c x).map .nm
  | .Tuple es _ _=>if c.calm then do
      let xs <-eh es
      if xs.any c.own.contains then none else
      let is <-xs.mapM (b6 c)
      if is.Nodup then some (.tp is)else none
    else none
  |_=>none
noncomputable def isStar:Expr->Bool
  | .Starred .. => true
  |_=>false
noncomputable def isSlice:Expr->Bool
  | .Slice .. => true
  |_=>false
noncomputable def isTup:Expr->Bool
  | .Tuple .. => true
  |_=>false
noncomputable def dQ(it:It)(tg:Expr):Bool:=match it with
  | .enum _=>isTup tg
  | .zip .. => isTup tg
  |_=>true
noncomputable def fL(c:Cc):Expr->Option Cl
  | .Name x _=>match glob c x with
    |some (.ty n _)=>some (.ty n)
    |some .exc=>some (.ex x)
    |some .exk=>some (.ex x)
    |_=>none
  |_=>none
noncomputable def vr(c:Cc)(x:Str)(i:Nat):E:=if c.own.contains x then .own i else .var i
noncomputable def cMt(c:Cc)(o:Expr)(m:Str)(ap:Pos)(as:List Expr)(cp:Pos):Option E:=match o with
  | .Name x _=>match as with
    | [a]=>match a with
      | .Constant k _ _=>match k with
        | .bool b=>match loc c x with
          |some i=>if b&&ap.endLine==cp.line then (if m = "count" then some (.mth false (vr c x i))else if m = "index" then some (.mth true (vr c x i))else none)else none
          |none=>none
        |_=>none
      |_=>none
    |_=>none
  |_=>none
noncomputable def baseOk:Expr->Bool
  | .Call (.Name _ _) (_::_) _ _=>true
  | .Name .. => true
  |_=>false
noncomputable def owned:It->Bool
  | .seq (.own _)=>true
  | .enum (.own _)=>true
  | .zip (.own _) _=>true
  | .zip _ (.own _)=>true
  |_=>false
noncomputable def cJ:Expr->Option Str
  | .Constant k _ _=>match k with
    | .str t=>some t
    |_=>none
  |_=>none
noncomputable def cL:Expr->Option Expr
  | .FormattedValue a k f _=>match f with
    |none=>if k = -1 then some a else none
    |_=>none
  |_=>none
noncomputable def gJ:List Expr->Option (Str×Expr×Str×Expr×Str)
  | [x0,x1,x2,x3,x4]=>do
    let t0 <-cJ x0
    let a <-cL x1
    let t1 <-cJ x2
    let b <-cL x3
    let t2 <-cJ x4
    if (Str.empty++t0).length<=1000 then some (t0,a,t1,b,t2)else none
  |_=>none
noncomputable def lB(vs:List Expr):Option (Expr×Str×Expr):=match vs with
  |x0::r=>match r with
    |x1::r=>match r with
      |x2::r=>if r.isEmpty then (match cL x0 with
        |some a=>match cJ x1 with
          |some t=>match cL x2 with
            |some b=>some (a,t,b)
            |none=>none
          |none=>none
        |none=>none)else none
      | []=>none
    | []=>none
  | []=>none
noncomputable def pV(e:Expr):Bool:=match e with
  | .Call f _ _ _=>(match f with
    | .Name x _=>x == "str"
    |_=>false)
  |e=>(cJ e).isSome
noncomputable def lh(o:O2)(b:Expr):Bool:=o==.add&&pV b
noncomputable def r8(c:Cc)(b:B1)(_:List Expr):Option Expr:=none
noncomputable def gD:Expr->Bool
  | .ListComp _ gs _ _=>gs.length==2
  |_=>false
mutual
noncomputable def cE:Nat->Cc->Expr->Option E
  | 0,_,_=>none
  |n+1,c,e=>match e with
    | .Name x _=>match loc c x with
      |some i=>if c.own.contains x then some (.own i)else some (.var i)
      |none=>match glob c x with
        |some .val=>some (.glb x)
        |some (.fn _)=>some (.fnv x)
        |_=>none
    | .Constant k _ _=>match k with
      | .int i=>some (.con (.int i))
      | .bool i=>some (.con (.bl i))
      | .none=>some (.con .non)
      | .str x=>some (.con (.str x))
      |_=>none
    | .BinOp a op b _=>do
      let o <-o2 op
      let a <-cE n c a
      let b' <-cE n c b
      some (if lh o b then .sadd a b' else .op o a b')
    | .UnaryOp op a _=>do
      let a <-cE n c a
      match op with
      | .USub=>some (.neg a)
      | .Invert=>some (.inv a)
      | .Not=>some (.not a)
      |_=>none
    | .BoolOp op vs _=>cBo n c op vs
    | .Compare a ops bs _=>match ops,bs with
      | [o],[b]=>do
        let a <-cE n c a
        let b' <-cE n c b
        if zl b then some (.cmp (c2 o) a b')else none
      | [o,o'],[b,d]=>do
        let a <-cE n c a
        let b' <-cE n c b
        let d' <-cE n c d
        if zl b&&zl d then some (.cmp2 (c2 o) (c2 o') a b' d')else none
      | [o,o',o''],[b,d,f]=>do
        let a <-cE n c a
        let b' <-cE n c b
        let d' <-cE n c d
        let f' <-cE n c f
        if zl b&&zl d&&zl f then some (.cmp3 (c2 o) (c2 o') (c2 o'') a b' d' f')else none
      |_,_=>none
    | .Dict ks vs _=>if ks.isEmpty&&vs.isEmpty then some .dic else none
    | .JoinedStr vs _=>match gJ vs with
      |some (t0,a,t1,b,t2)=>do
        let a <-cE n c a
        let b <-cE n c b
        some (.fst2 t0 a t1 b t2)
      |none=>match lB vs with
        |some (a,t,b)=>do
          let a <-cE n c a
          let b <-cE n c b
          some (.fsm a t b)
        |none=>none
    | .IfExp t a b _=>do
      let t <-cT n c t
      let a <-cE n c a
      let b <-cE n c b
      if esc a&&esc b then some (.ite t a b)else none
    | .Tuple es _ _=>do
      let es <-cEs n c es
      if cF es then some (.tup es)else none
    | .List es _=>do
      let es <-cEs n c es
      if cF es then some (.lst es)else none
    | .Subscript a b _=>match b with
      | .Slice lo hi st _=>match st with
        |some _=>none
        |none=>do
          let a <-cE n c a
          let lo <-cO n c lo
          let hi <-cO n c hi
          some (.sl a lo hi)
      |b=>do
        if isSlice b then none else
        let a <-cE n c a
        let b <-cE n c b
        some (.ix a b)
    | .ListComp elt gs sc _=>match gs with
     | [⟨tgt,it,ifs,asy⟩]=>do
      if !(asy==0) || !c.calm || !zl it then none else
      let c':Cc:={c with nm:=fC sc.names c.nm,N:=zU sc.names,fnc:=false,oc:=eW sc.names}
      let cap:=eA c sc.names
      if !fB (λx=>c.nm.lookup x) c.N (zU sc.names) cap sc || !decide (zU sc.names).Nodup then none else
      let it <-cI n c it
      let tg <-cTg c' tgt
      let t <-dn n c' ifs
      let elt <-cE n c' elt
      if esc elt&&dQ it tgt then some (.comp it cap tg t elt)else none
     |_=>none
    | .Call fe as ks cp=>match ks with
     | []=>match fe with
      | .Name f _=>match loc c f with
        |some _=>none
        |none=>match glob c f with
          |some (.fn _)=>do
            let es <-cEs n c as
            if cF es && !as.isEmpty then some (.call f es)else if !as.isEmpty then some (.callo f es)else none
          |some (.bi b)=>match r8 c b as with
            |some a=>(cE n c a).map (.sset (b==.len))
            |none=>do
              let es <-cEs n c as
              if !as.isEmpty&&(c.calm||b==.len||b==.abs)then some (.bi b es)else none
          |some (.ty t (some b))=>match as with
            | [.Call (.Name g p) as' [] q]=>if loc c g==none&&glob c g==some .rng then (if c.calm&&(t == "tuple" ||t == "list")then (match as' with
                | [a]=>if isStar a then none else do
                  let a <-cE n c a
                  some (if t = "tuple" then .rtup (.rng a)else .rlst (.rng a))
                | [a,d]=>if isStar a||isStar d then none else do
                  let a <-cE n c a
                  let d <-cE n c d
                  some (if t = "tuple" then .rtup (.rng2 a d)else .rlst (.rng2 a d))
                | [a,d,k]=>if isStar a||isStar d||isStar k then none else do
                  let a <-cE n c a
                  let d <-cE n c d
                  let k <-cE n c k
                  if t == "tuple" then some (.rtup (.rng3 a d k))else none
                |_=>none)
                else none)
              else do
                let es <-cEs n c as
                some (.bi b es)
            |_=>do
              let es <-cEs n c as
              if !as.isEmpty then some (.bi b es)else none
          |some .isi=>match as with
            | [a,k]=>do
              if isStar a then none else
              let a <-cE n c a
              let k <-fL c k
              some (.isi a k)
            |_=>none
          |some (.ty t none)=>match as with
            | [a]=>if t == "str" && !isStar a then (cE n c a).map .stri else none
            |_=>none
          |_=>none
      | .Attribute o m ap=>match cMt c o m ap as cp with
        |some e=>some e
        |none=>match as with
          | [a]=>match cJ o with
           |some sep=>if m == "join" && !isStar a&&(ap.endLine==cp.line)then (cE n c a).map (.joi sep)else none
           |none=>do
            if !baseOk o||isStar a || !(m == "count") || !(ap.endLine==cp.line)then none else
            let o' <-cE n c o
            let a' <-cE n c a
            if esc a' then some (.cnt o' a')else none
          |_=>none
      |_=>none
     |_=>none
    |_=>none
noncomputable def dn:Nat->Cc->List Expr->Option T
  | 0,_,_=>none
  |n+1,c,ifs=>match ifs with
    | []=>some .yes
    | [t]=>cT n c t
    |_=>none
noncomputable def cBo:Nat->Cc->BoolOp->List Expr->Option E
  | 0,_,_,_=>none
  |n+1,c,op,vs=>match vs with
    | []=>none
    | [a]=>do
      let a <-cE n c a
      if esc a then some a else none
    |a::b::r=>do
      let a <-cE n c a
      let r <-cBo n c op (b::r)
      match op with
      | .And=>some (.and a r)
      | .Or=>some (.or a r)
noncomputable def cO:Nat->Cc->Option Expr->Option OE
  | 0,_,_=>none
  |n+1,c,o=>match o with
    |none=>some .none
    |some e=>(cE n c e).map .some
noncomputable def cEs:Nat->Cc->List Expr->Option Es
  | 0,_,_=>none
  |n+1,c,es=>match es with
    | []=>some .nil
    |e::r=>do
      if isStar e then none else
      let e <-cE n c e
      let r <-cEs n c r
      some (.cons e r)
noncomputable def cI:Nat->Cc->Expr->Option It
  | 0,_,_=>none
  |n+1,c,e=>match e with
    | .Call (.Name f p) as [] q=>match loc c f with
      |some _=>(cE n c (.Call (.Name f p) as [] q)).map .seq
      |none=>match glob c f with
        |some .rng=>(match as with
          | [a]=>if isStar a then none else (cE n c a).map .rng
          | [a,b]=>if isStar a||isStar b then none else do
            let a <-cE n c a
            let b <-cE n c b
            some (.rng2 a b)
          |_=>none)
        |some .enum=>(match as with
          | [a]=>if isStar a then none else (cE n c a).map .enum
          |_=>none)
        |some .zip=>(match as with
          | [a,b]=>if isStar a||isStar b then none else do
            let a <-cE n c a
            let b <-cE n c b
            some (.zip a b)
          |_=>none)
        |_=>(cE n c (.Call (.Name f p) as [] q)).map .seq
    |e=>(cE n c e).map .seq
noncomputable def cT:Nat->Cc->Expr->Option T
  | 0,_,_=>none
  |n+1,c,e=>match e with
    | .UnaryOp .Not a _=>(cT n c a).map .not
    | .BoolOp op vs _=>cTs n c op vs
    | .IfExp .. => none
    | .Compare a ops bs _=>match ops,bs with
      | [o],[b]=>do
        let a <-cE n c a
        let b' <-cE n c b
        if zl b then some (.cmp (c2 o) a b')else none
      | [o,o'],[b,d]=>do
        let a <-cE n c a
        let b' <-cE n c b
        let d' <-cE n c d
        if zl b&&zl d then some (.cmp2 (c2 o) (c2 o') a b' d')else none
      | [o,o',o''],[b,d,f]=>do
        let a <-cE n c a
        let b' <-cE n c b
        let d' <-cE n c d
        let f' <-cE n c f
        if zl b&&zl d&&zl f then some (.val (.cmp3 (c2 o) (c2 o') (c2 o'') a b' d' f'))else none
      |_,_=>none
    |e=>(cE n c e).map .val
noncomputable def cTs:Nat->Cc->BoolOp->List Expr->Option T
  | 0,_,_,_=>none
  |n+1,c,op,vs=>match vs with
    | []=>none
    | [a]=>cT n c a
    |a::b::r=>do
      let a <-cT n c a
      let r <-cTs n c op (b::r)
      match op with
      | .And=>some (.and a r)
      | .Or=>some (.or a r)
end
noncomputable def eu(c:Cc):Cc:={c with calm:=false,thr:=false,G:=c.GH,GH:=[]}

noncomputable def gC:Expr->Option (Str×Str×Pos×Expr×Pos)
  | .Call f as ks cp=>match f with
    | .Attribute o m ap=>match o with
      | .Name x _=>match as with
        | [a]=>if ks.isEmpty then some (x,m,ap,a,cp)else none
        |_=>none
      |_=>none
    |_=>none
  |_=>none
noncomputable def kM(_:Expr):Option (Str×Pos×Expr×Expr×Pos):=none
noncomputable def raiseOf:Expr->Option (Str×Expr×List Expr)
  | .Call f as ks _=>match f with
    | .Name x _=>match as with
      |a::as=>if ks.isEmpty then some (x,a,as)else none
      |_=>none
    |_=>none
  |_=>none
noncomputable def hU:Expr->Bool
  | .Tuple es _ _=>es.all (foldedForSure 8)
  |_=>false
mutual
noncomputable def cS:Nat->Cc->Bool->Stmt->Option S
  | 0,_,_,_=>none
  |n+1,c,fr,s=>match s with
    | .Assign ts e _=>match ts with
      | [t]=>match t with
        | .Name x _=>do
          if gD e then none else
          let i <-b6 c x
          let e' <-cE n c e
          if c.own.contains x then (if fresh c e' && !c.frz then some (.set (.nm i) e')else none)else if esc e' then some (.set (.nm i) e')else none
        | .Tuple ts k p=>do
              let tg <-cTg c (.Tuple ts k p)
              let e' <-cE n c e
              if (isTup e && !hU e)||cV e || !esc e' then none else some (.set tg e')
        | .Subscript a k _=>match a with
          | .Name x _=>do
            let i <-b6 c x
            let e' <-cE n c e
            let k' <-cE n c k
            if c.own.contains x&&esc e' && !isSlice k && !cV e && !c.frz then some (.seti i k' e')else none
          |_=>none
        |_=>none
      |_=>none
    | .Expr e _=>match kM e with
      |some (x,ap,k,a,cp)=>do
        let i <-b6 c x
        let k' <-cE n c k
        let a' <-cE n c a
        if c.own.contains x&&esc a' && !isStar k && !isStar a&&ap.endLine==cp.line && !c.frz then some (.ins i k' a')else none
      |none=>match gC e with
      |some (x,m,ap,a,cp)=>do
        let i <-b6 c x
        let a' <-cE n c a
        if m == "append" && c.own.contains x&&esc a' && !isStar a&&ap.endLine==cp.line && !c.frz then some (.app i a')else none
      |none=>do
        if cV e then none else
        let e' <-cE n c e
        some (.exp e')
    | .Return o _=>match o with
      |some e=>do
        let e' <-cE n c e
        if fr then (match e with
          | .Name y _=>if c.own.contains y then (loc c y).map (λi=>.ret (.own i))else none
          |_=>if fresh c e' then some (.ret e')else none)
        else some (.ret e')
      |none=>if fr then none else some .retN
    | .If t a b _=>do
      let t <-cT n c t
      let a <-cSs n c fr a
      let b <-cSs n c fr b
      some (.ite t a b)
    | .For tg it b els _=>do
      if !els.isEmpty || !c.calm || !zl it then none else
      let tg' <-cTg c tg
      let it <-cI n c it
      if !dQ it tg then none else
      let b <-cSs n {c with frz:=c.frz||owned it} fr b
      some (.for tg' it b)
    | .While t b els _=>do
      if !els.isEmpty || !c.calm then none else
      let t <-cT n c t
      let b <-cSs n c fr b
      some (.while t b)
    | .Raise o o' _=>match o with
      |some r=>match raiseOf r with
        |some (x,a,as)=>do
          if !o'.isNone || !c.calm || !c.thr then none else
          match glob c x with
          |some .exc=>do
            let es <-cEs n c (a::as)
            some (.raise x es)
          |_=>none
        |none=>none
      |none=>none
    | .Try b hs els fin _=>match hs with
      | [.ExceptHandler ty y h _]=>match ty with
        |some (.Name x _)=>do
          if !els.isEmpty || !fin.isEmpty || !c.calm || !c.fnc||fr||h.isEmpty || !c.own.isEmpty||c.frz then none else
          let b <-cSs n {c with thr:=false} fr b
          let h <-cSs n (eu c) fr h
          if !(glob c x==some .exc||glob c x==some .exk)then none else
          match y with
          |none=>some (.try b x none h)
          |some y=>do
            let i <-b6 c y
            if c.nm.lookup y==some .local then some (.try b x (some i) h)else none
        |_=>none
      |_=>none
    | .Pass _=>some .pass
    | .Break _=>some .brk
    | .Continue _=>some .cnt
    |_=>none
noncomputable def cSs:Nat->Cc->Bool->List Stmt->Option Ss
  | 0,_,_,_=>none
  |n+1,c,fr,ss=>match ss with
    | []=>some .nil
    |s::r=>do
      let r <-cSs n c fr r
      some (.cons ((cS n c fr s).getD .unk) r)
end
noncomputable def noOwn(c:Cc):Cc:={c with own:=[],frz:=false}
noncomputable def eE(n:Nat)(c:Cc)(fr:Bool)(b:List Stmt):Option Ss:=cSs n c fr b
noncomputable def argNames(a:Arguments):List Str:=a.args.map (·.arg)
noncomputable def cM(a:Arguments)(sc:aH):List Str:=argNames a++((sc.names.filter λp=>p.2==.local||p.2==.cell).map (·.1)).filter λx=>!(argNames a).contains x
noncomputable def ee(N ps:List Str)(sc:aH):Bool:=
  sc.kind==.function && !sc.isCoroutine && !sc.isGenerator&&decide N.Nodup&&decide (N.take ps.length=ps)&&ps.all (λx=>sc.names.lookup x==some .local||sc.names.lookup x==some .cell)&&sc.names.all λy=>y.2 != .free
noncomputable def eR:Nat:=60
noncomputable def cFn(G GH:List (Str×GK))(own:List Str)(fr:Bool)(st:Stmt):Option Fn:=do
  let a:=qS st
  let sc:=qR st
  let N:=cM a sc
  if !ee N (argNames a) sc||(argNames a).any own.contains then none else
  let b <-eE eR ⟨sc.names,N,own,G,true,true,true,GH,[],false⟩ fr (zF st)
  some ⟨(argNames a).length,N.length,fr,b⟩
noncomputable def eF(GU:List (Str×GK))(own:List Str)(fr:Bool)(st:Stmt):Option Fn:=do
  let a:=qS st
  let sc:=qR st
  let N:=cM a sc
  if !ee N (argNames a) sc||(argNames a).any own.contains then none else
  let b <-eE eR ⟨sc.names,N,own,GU,false,true,false,[],[],false⟩ fr (zF st)
  some ⟨(argNames a).length,N.length,fr,b⟩
end EV

namespace EV
open PySem PySem.Spec PyProof.Rows L2
structure Gc where
 K:aq
 fnA:Str->Option Addr
 clA:Str->Option Addr
mutual
inductive Rep(g:Gc)(H:Hp):D->V->Prop
 |non:Rep g H .non .non
 |bl (b:Bool):Rep g H (.bl b) (.bl b)
 |int (i:Int):Rep g H (.int i) (.int i)
 |str (x:Str):Rep g H (.str x) (.str x)
 |tup {a:Addr}{xs:List V}{ds:List D}:SqT g.K H a xs->za g H ds xs->Rep g H (.tup ds) (.ref a)
 |lst {a:Addr}{xs:List V}{ds:List D}:SqL g.K H a xs->za g H ds xs->Rep g H (.lst ds) (.ref a)
 |fn {x:Str}{a:Addr}:g.fnA x=some a->Rep g H (.fn x) (.ref a)
 |exn {c:Str}{a C:Addr}:g.clA c=some C->H a=some (eC a (.ref C))->Rep g H (.exn c) (.ref a)
 |dic {a:Addr}:H a=some (.dK [])->Rep g H .dic (.ref a)
inductive za(g:Gc)(H:Hp):List D->List V->Prop
 |nil:za g H [] []
 |cons {d:D}{ds:List D}{x:V}{xs:List V}:Rep g H d x->za g H ds xs->za g H (d::ds) (x::xs)
end
theorem de{K:aq}{H H':Hp}{a:Addr}{xs:List V}(e:qf H H')(h:SqT K H a xs):SqT K H' a xs:=by
 rcases h with (h|⟨o,h⟩)|h
 ·exact .inl (.inl (e _ _ h))
 ·exact .inl (.inr ⟨o,e _ _ h⟩)
 ·exact .inr h
section
variable{g:Gc}{H H':Hp}
theorem iX{a b:Bool}(h:(a&&b)=true):a=true/\b=true:=by rw[aB]at h;exact h
theorem Rep.mono(e:qf H H'){d:D}{v:V}(h:Rep g H d v):Rep g H' d v:=
 h.rec (motive_1:=λd v _=>Rep g H' d v) (motive_2:=λd v _=>za g H' d v) .non .bl .int .str (λq _ r=>.tup (de e q) r) (λq _ r=>.lst (e.seq q) r) .fn (λq r=>.exn q (e _ _ r)) (λq=>.dic (e _ _ q)) .nil (λ_ _ a b=>.cons a b)
theorem za.mono(e:qf H H'){d:List D}{v:List V}(h:za g H d v):za g H' d v:=
 h.rec (motive_1:=λd v _=>Rep g H' d v) (motive_2:=λd v _=>za g H' d v) .non .bl .int .str (λq _ r=>.tup (de e q) r) (λq _ r=>.lst (e.seq q) r) .fn (λq r=>.exn q (e _ _ r)) (λq=>.dic (e _ _ q)) .nil (λ_ _ a b=>.cons a b)
theorem za.length{ds:List D}:∀{vs:List V},za g H ds vs->ds.length=vs.length:=by
 induction ds with
 |nil=>intro vs h;cases h;rfl
 |cons d ds ih=>intro vs h;cases h with|cons _ r=>exact congrArg (· + 1) (ih r)
theorem za.get{ds:List D}:∀{vs:List V}{i:Nat}{d:D},za g H ds vs->ds[i]? = some d->∃v,vs[i]? = some v/\Rep g H d v:=by
 induction ds with
 |nil=>intro vs i d h e;cases e
 |cons d ds ih=>
  intro vs i d' h e;cases h with
  |cons h t=>cases i with
   |zero=>cases e;exact⟨_,rfl,h⟩
   |succ i=>exact ih (i:=i) t e
theorem za.append{ds:List D}:∀{es:List D}{vs us:List V},za g H ds vs->za g H es us->za g H (ds++es) (vs++us):=by
 induction ds with
 |nil=>intro es vs us h s;cases h;exact s
 |cons d ds ih=>intro es vs us h s;cases h with|cons r t=>exact .cons r (ih t s)
theorem za.take{ds:List D}:∀{vs:List V} (n:Nat),za g H ds vs->za g H (ds.take n) (vs.take n):=by
 induction ds with
 |nil=>intro vs n h;cases h;cases n<;>exact .nil
 |cons d ds ih=>intro vs n h;cases h with|cons r t=>cases n with
  |zero=>exact .nil
  |succ n=>exact .cons r (ih n t)
theorem za.drop{ds:List D}:∀{vs:List V} (n:Nat),za g H ds vs->za g H (ds.drop n) (vs.drop n):=by
 induction ds with
 |nil=>intro vs n h;cases h;cases n<;>exact .nil
 |cons d ds ih=>intro vs n h;cases n with
  |zero=>exact h
  |succ n=>cases h with|cons r t=>exact ih n t
theorem za.set{d:D}{v:V}(r:Rep g H d v){ds:List D}:∀{vs:List V} (i:Nat),za g H ds vs->za g H (ds.set i d) (vs.set i v):=by
 induction ds with
 |nil=>intro vs i h;cases h;exact .nil
 |cons d' ds ih=>intro vs i h;cases h with|cons q t=>cases i with
  |zero=>exact .cons r t
  |succ i=>exact .cons q (ih i t)
theorem za.ints{ds:List D}:∀{vs:List V}{ns:List Int},za g H ds vs->ints? ds=some ns->vs=ns.map V.int/\ds=ns.map D.int:=by
 induction ds with
 |nil=>intro vs ns h e;cases h;cases e;exact⟨rfl,rfl⟩
 |cons d ds ih=>
  intro vs ns h e;cases h with
  |cons h t=>cases d with
   |int i=>
    obtain⟨ms,e1,rfl⟩:=a9.mp (show (ints? ds).map (i :: ·)=some ns from e);obtain⟨h1,h2⟩:=ih t e1;cases h;exact⟨by rw[h1];rfl,by rw[h2];rfl⟩
   |_=>cases (show none=some ns from e)
theorem za.bools{ds:List D}:∀{vs:List V}{ns:List Bool},za g H ds vs->bools? ds=some ns->vs=ns.map V.bl:=by
 induction ds with
 |nil=>intro vs ns h e;cases h;cases e;rfl
 |cons d ds ih=>
  intro vs ns h e;cases h with
  |cons h t=>cases d with
   |bl i=>
    obtain⟨ms,e1,rfl⟩:=a9.mp (show (bools? ds).map (i :: ·)=some ns from e);have h1:=ih t e1;cases h;rw[h1];rfl
   |_=>cases (show none=some ns from e)
theorem za.ofInts:∀(ns:List Int),za g H (ns.map D.int) (ns.map V.int)
 | []=>.nil
 |i::r=>.cons (.int i) (za.ofInts r)
end
structure Sh where
 o:Addr->Bool
 h:Addr->Bool
 z:L2.St
 y:Hp
noncomputable def hid(H:Hp)(S:Sh):Hp:=λb=>if S.h b=true then none else H b
noncomputable def zT(S:Sh)(a:Addr):Sh:=⟨S.o,λb=>S.h b||b==a,S.z,S.y⟩
theorem bx{H:Hp}{S:Sh}{b:Addr}{o:HO}:hid H S b=some o↔S.h b=false/\H b=some o:=by
 unfold hid;cases h:S.h b<;>simp
theorem cg{H:Hp}{S:Sh}:qf (hid H S) H:=λ_ _ h=>(bx.mp h).2
theorem zf{H H':Hp}{S:Sh}(e:qf H H'):qf (hid H S) (hid H' S):=λb o h=>bx.mpr ⟨(bx.mp h).1,e _ _ (bx.mp h).2⟩
noncomputable def Sub(S:Sh)(H:Hp):Prop:=∀a,(S.h a=true\/S.o a=true)->H a≠none
theorem Sub.same{S:Sh}{H H':Hp}(h:Sub S H)(e:qf H H'):Sub S H':=λa s n=>by
 cases q:H a with
 |none=>exact h a s q
 |some o=>rw[e _ _ q]at n;cases n
theorem Sub.free{S:Sh}{H:Hp}(h:Sub S H){p:Addr}(n:H p=none):S.h p=false:=by
 cases q:S.h p with
 |false=>rfl
 |true=>exact absurd n (h p (.inl q))
theorem Sub.freeO{S:Sh}{H:Hp}(h:Sub S H){p:Addr}(n:H p=none):S.o p=false:=by
 cases q:S.o p with
 |false=>rfl
 |true=>exact absurd n (h p (.inr q))
theorem zi{H:Hp}{p:Addr}{o:HO}(n:H p=none):qf H (upd H p o):=λb u h=>by
 rw[qg (λz=>by rw[z,n]at h;cases h)];exact h
theorem ig{H:Hp}{S:Sh}{p:Addr}{o:HO}(hs:Sub S H)(n:H p=none):hid (upd H p o) S p=some o:=bx.mpr ⟨hs.free n,zm⟩
theorem fT{H:Hp}{S:Sh}{p:Addr}{o:HO}(n:H p=none):qf (hid H S) (hid (upd H p o) (zT S p)):=λb u h=>by
 obtain⟨h1,h2⟩:=bx.mp h;have hb:b≠p:=λz=>by rw[z,n]at h2;cases h2
 refine bx.mpr ⟨?_,by rw[qg hb];exact h2⟩;show (S.h b||b==p)=false;rw[h1]
 simpa using hb
theorem j9{H:Hp}{S:Sh}{p:Addr}:qf (hid H (zT S p)) (hid H S):=λb u h=>by
 obtain⟨h1,h2⟩:=bx.mp h;refine bx.mpr ⟨?_,h2⟩;have h1:(S.h b||b==p)=false:=h1;simp at h1;exact h1.1
noncomputable def zp(g:Gc)(H:Hp)(S:Sh)(d:D)(v:V):Prop:=
 Rep g (hid H S) d v\/∃a vs ds,S.o a=true/\v=.ref a/\d=.lst ds/\H a=some (.lst vs)/\za g (hid H S) ds vs
noncomputable def Fr(g:Gc)(H0:Hp)(S:Sh)(H:Hp)(d:D)(v:V):Prop:=
 ∃a vs ds,v=.ref a/\d=.lst ds/\H0 a=none/\H a=some (.lst vs)/\za g (hid H (zT S a)) ds vs
section
variable{g:Gc}{H H' H0:Hp}{S:Sh}{d:D}{v:V}
theorem zp.mono(e:qf H H')(h:zp g H S d v):zp g H' S d v:=by
 rcases h with h|⟨a,vs,ds,h1,h2,h3,h4,h5⟩
 ·exact .inl (h.mono (zf e))
 ·exact .inr ⟨a,vs,ds,h1,h2,h3,e _ _ h4,h5.mono (zf e)⟩
theorem zp.rep(h:zp g H S d v):Rep g H d v:=by
 rcases h with h|⟨a,vs,ds,h1,rfl,rfl,h4,h5⟩
 ·exact h.mono cg
 ·exact .lst (SqL.of h4) (h5.mono cg)
theorem zp.lst{ds:List D}(h:zp g H S (.lst ds) v):∃a vs,v=.ref a/\SqL g.K H a vs/\za g (hid H S) ds vs:=by
 rcases h with h|⟨a,vs,ds',h1,rfl,h3,h4,h5⟩
 ·cases h with
  |lst h r=>exact⟨_,_,rfl,cg.seq h,r⟩
 ·cases h3;exact⟨a,vs,rfl,SqL.of h4,h5⟩
theorem zp.strong(h:zp g H S d v)(n:∀ds,d≠.lst ds):Rep g (hid H S) d v:=by
 rcases h with h|⟨a,vs,ds',h1,rfl,h3,h4,h5⟩
 ·exact h
 ·exact absurd h3 (n _)
theorem zp.tup{ds:List D}(h:zp g H S (.tup ds) v):∃a vs,v=.ref a/\SqT g.K H a vs/\za g (hid H S) ds vs:=by
 cases h.strong (by intro _ z;cases z)with
 |tup h2 r=>exact⟨_,_,rfl,de cg h2,r⟩
theorem zp.seq{ds:List D}(h:zp g H S d v)(e:seq? d=some ds):∃a vs,v=.ref a/\(SqL g.K H a vs\/SqT g.K H a vs)/\za g (hid H S) ds vs:=by
 cases d with
 |tup xs=>cases e;obtain⟨a,vs,h1,h2,h3⟩:=h.tup;exact⟨a,vs,h1,.inr h2,h3⟩
 |lst xs=>cases e;obtain⟨a,vs,h1,h2,h3⟩:=h.lst;exact⟨a,vs,h1,.inl h2,h3⟩
 |_=>cases e
theorem zp.int{i:Int}(h:zp g H S (.int i) v):v=.int i:=by cases h.strong (by intro _ z;cases z);rfl
theorem zp.bl{b:Bool}(h:zp g H S (.bl b) v):v=.bl b:=by cases h.strong (by intro _ z;cases z);rfl
theorem dN{ds:List D}{vs:List V}{p:Addr}(hs:Sub S H)(n:H p=none)(r:za g (hid H S) ds vs):Rep g (hid (upd H p (.tup vs)) S) (.tup ds) (.ref p):=
 .tup (SqT.of (ig hs n)) (r.mono (zf (zi n)))
theorem eY{ds:List D}{vs:List V}{p:Addr}(hs:Sub S H)(n:H p=none)(r:za g (hid H S) ds vs):Rep g (hid (upd H p (.lst vs)) S) (.lst ds) (.ref p):=
 .lst (SqL.of (ig hs n)) (r.mono (zf (zi n)))
theorem fO{ds:List D}{vs:List V}{p:Addr}(e:qf H0 H)(n:H p=none)(r:za g (hid H S) ds vs):Fr g H0 S (upd H p (.lst vs)) (.lst ds) (.ref p):=
 ⟨p,vs,ds,rfl,rfl,e.free n,zm,r.mono (fT n)⟩
end
end EV
namespace HT
open PySem PySem.Spec PyProof.Rows L2
section
variable{prog:aw}{w:ar}{A:av}{E:ae->af->Prop}{s:af}
end
end HT
namespace L2
open PySem PySem.Spec PyProof.Rows
variable{X:Cx}
section
variable{X:Cx}
end
end L2
namespace EV
open PySem PySem.Spec PySem.P PyProof.Rows L2
mutual
noncomputable def D.py:D->PyData
 | .non=>.none
 | .bl b=>.bool b
 | .int i=>.int i
 | .str x=>.str x
 | .tup xs=>.tuple (pys xs)
 | .lst xs=>.list (pys xs)
 | .fn _=>.none
 | .exn _=>.none
 | .dic=>.none
noncomputable def pys:List D->List PyData
 | []=>[]
 |x::xs=>x.py::pys xs
end
mutual
theorem i9:∀{d:D},d.plain=true->d.py.canLay0=true
 | .non,_ | .bl _,_ | .int _,_=>by simp[D.py,PyData.canLay0]
 | .str x,h=>by simpa[D.py,PyData.canLay0,D.plain]using h
 | .tup xs,h=>by simp only[D.py,PyData.canLay0];exact gE (by simpa[D.plain]using h)
 | .lst xs,h=>by simp only[D.py,PyData.canLay0];exact gE (by simpa[D.plain]using h)
 | .fn _,h | .exn _,h | .dic,h=>by simp[D.plain]at h
theorem gE:∀{ds:List D},plainAll ds=true->PyData.canLayAll0 (pys ds)=true
 | [],_=>by simp[pys,PyData.canLayAll0]
 |x::xs,h=>by
  simp only[plainAll,aB]at h;simp only[pys,PyData.canLayAll0,aB];exact⟨i9 h.1,gE h.2⟩
end
mutual
theorem jC:∀(d:D),d.py.depth=d.deep
 | .non | .bl _ | .int _ | .str _ | .fn _ | .exn _ | .dic=>by simp[D.py,PyData.depth,D.deep]
 | .tup xs=>by simp only[D.py,PyData.depth,D.deep];rw[iL xs]
 | .lst xs=>by simp only[D.py,PyData.depth,D.deep];rw[iL xs]
theorem iL:∀(ds:List D),PyData.depthAll (pys ds)=dv ds
 | []=>by simp[pys,PyData.depthAll,dv]
 |x::xs=>by simp only[pys,PyData.depthAll,dv];rw[jC x,iL xs]
end
mutual
theorem gS:∀(a b:D),a.plain=true->b.plain=true->PyData.eqv a.py b.py=a.eqv b
 | .tup xs,.tup ys,h,h'=>by simp only[D.py,PyData.eqv,D.eqv];exact iB xs ys (by simpa[D.plain]using h) (by simpa[D.plain]using h')
 | .lst xs,.lst ys,h,h'=>by simp only[D.py,PyData.eqv,D.eqv];exact iB xs ys (by simpa[D.plain]using h) (by simpa[D.plain]using h')
 | .fn _,_,h,_=>by simp[D.plain]at h
 | .exn _,_,h,_=>by simp[D.plain]at h
 | .dic,_,h,_=>by simp[D.plain]at h
 | .non,b,_,h' | .bl _,b,_,h' | .int _,b,_,h' | .str _,b,_,h'=>by cases b<;>simp[D.py,PyData.eqv,D.eqv,D.plain]at h' ⊢
 | .tup _,.non,_,_ | .tup _,.bl _,_,_ | .tup _,.int _,_,_ | .tup _,.str _,_,_ | .tup _,.lst _,_,_=>by simp[D.py,PyData.eqv,D.eqv]
 | .lst _,.non,_,_ | .lst _,.bl _,_,_ | .lst _,.int _,_,_ | .lst _,.str _,_,_ | .lst _,.tup _,_,_=>by simp[D.py,PyData.eqv,D.eqv]
 | .tup _,.fn _,_,h' | .tup _,.exn _,_,h' | .lst _,.fn _,_,h' | .lst _,.exn _,_,h' | .tup _,.dic,_,h' | .lst _,.dic,_,h'=>by simp[D.plain]at h'
theorem iB:∀(xs ys:List D),plainAll xs=true->plainAll ys=true->PyData.eqvAll (pys xs) (pys ys)=eqvAll xs ys
 | [],[],_,_=>by simp[pys,PyData.eqvAll,eqvAll]
 |x::xs,y::ys,h,h'=>by
  simp only[plainAll,aB]at h h';simp only[pys,PyData.eqvAll,eqvAll];rw[gS x y h.1 h'.1,iB xs ys h.2 h'.2]
 | [],_::_,_,_=>by simp[pys,PyData.eqvAll,eqvAll]
 |_::_,[],_,_=>by simp[pys,PyData.eqvAll,eqvAll]
end
theorem Rep.data{g:Gc}{H:Hp}{d:D}{v:V}(h:Rep g H d v):d.plain=true->cH g.K H v d.py:=
 h.rec (motive_1:=λd v _=>d.plain=true->cH g.K H v d.py) (motive_2:=λds vs _=>plainAll ds=true->dW g.K H vs (pys ds)) (λ_=>.non) (λb _=>.bl b) (λb _=>.int b) (λb _=>.str b) (λq _ r p=>.tup q (r p)) (λq _ r p=>.lst q (r p)) (λ_ p=>nomatch p) (λ_ _ p=>nomatch p) (λ_ p=>nomatch p) (λ_=>.nil) (λ_ _ a b p=>.cons (a (iX p).1) (b (iX p).2))
theorem fq{d:D}:d.asks=true↔d.plain=true/\d.deep<=20:=by simp[D.asks]
section
variable{X:Cx}{g:Gc}
theorem OpR.imp{f:ae->ae->Sem ae}{r r':R2}(h:OpR X f r)(i:∀x y H Q,r' x y H Q->r x y H Q):OpR X f r':=
 λpins s σ H x y v u Q I rx ry q=>h pins s σ H x y v u Q I rx ry (i _ _ _ _ q)
noncomputable def vk(K:aq):R2:=λx y H Q=>∃l b xs zs,x=.ref l/\y=.ref b/\SqL K H l xs/\SqL K H b zs/\xs.length+zs.length<=aF/\∀p,H p=none->Q (.ref p) (upd H p (.lst (xs++zs)))
theorem r0:OpR X (binaryOp .Add) (vk X.K):=by
 intro pins s σ H x y v u Q I rx ry h;obtain⟨l,b,xs,zs,rfl,rfl,hH,hB,hz,q⟩:=h;cases rx;cases ry;obtain⟨its,r,pl,z⟩:=I.list hH;obtain⟨its2,r2,pl2,z2⟩:=I.list hB;have l1:=r.length;have l2:=r2.length;obtain⟨⟨cls,dd,data,sl⟩,ho,hc,n,hd⟩:=pl.isList;obtain⟨⟨cls2,dd2,data2,sl2⟩,ho2,hc2,n2,hd2⟩:=pl2.isList;simp only at hc hd hc2 hd2;subst hc hd hc2 hd2;refine concat_meets ⟨_,ho,rfl⟩ ⟨_,ho2,rfl⟩ noFill_list_add seq_list_add PySem.F.slot_list_add PySem.F.entry_list_add (PySem.F.args_list_add_2 _ _) (list_addW l b its.toArray its2.toArray n n2 dd dd2 sl sl2 (by rw[aN,aN];lia)) ⟨ho,ho2,?_⟩;have ea:its.toArray++its2.toArray=(its++its2).toArray:=by simp
 rw[ea];exact⟨.ref _,_,I.lnew (t':=s.toks) (r.append r2) (by rw[List.length_append];lia),rfl,q _ I.fresh⟩
noncomputable def rOp(g:Gc)(o:O2):R2:=λx y H Q=>∃S da db,Sub S H/\zp g H S da x/\zp g H S db y /\
 match op2 o da db with
 | .ok d=>∀v H',qf H H'->Rep g (hid H' S) d v->(lp da=true->Fr g H S H' d v)->Q v H'
 |_=>False
theorem eG{o:O2}(ho:o≠.add)(hm:o≠.mul){da db d:D}(h:op2 o da db=.ok d):∃i j,da=.int i/\db=.int j/\opI o i j=.ok d:=by
 unfold op2 at h;split at h
 ·exact⟨_,_,rfl,rfl,h⟩
 ·rw[if_neg (λz=>ho z.1)]at h;cases h
 ·rw[if_neg (λz=>ho z.1)]at h;cases h
 ·cases h
theorem kZ{j:Int}(h:small j=true):-(2^64)<j/\j<2^64:=by simpa[small]using h
theorem kc{n:Nat}(h:n<=SZ):n<=sizeLine:=aS h (by rw[bh];decide)
theorem log2_small{j:Int}(h1:0<j)(h2:j<1000000000000000000000000000000):j.natAbs.log2<9000:=by
 have h3:j.natAbs<2^100:=by
  have:(2:Nat)^100=1267650600228229401496703205376:=by decide +kernel
  rw[this];lia
 have:=(Nat.log2_lt (n:=j.natAbs) (k:=100) (by lia)).mpr h3;lia
theorem mT:OpR X (binaryOp .FloorDiv) (rI (λ_ j=>0<j/\j<1000000000000000000000000000000) λi j=>.int (i/j)):=L2.opI λi j _ _ _ _ _ hc q=>by
 have h1:(0:Int)<j:=hc.1;exact floordiv_int (by lia) (by rw[Int.fdiv_eq_ediv_of_nonneg i (by lia)];exact q) (.inl (PyProof.noPylong_of_log2 (log2_small hc.1 hc.2)))
theorem oZ(hK:X.K=g.K){op:Operator}{o:O2}(h:o2 op=some o):OpR X (binaryOp op) (rOp g o):=by
 have two:∀{f:ae->ae->Sem ae}{C:Int->Int->Prop}{q:Int->Int->Int} (o:O2),OpR X f (rI C λi j=>.int (q i j))->(∀da db d,op2 o da db=.ok d->∃i j,da=.int i/\db=.int j/\C i j/\d=.int (q i j))->OpR X f (rOp g o):=λo k e=>by
  refine OpR.imp k λx y H Q ⟨S,da,db,hs,ra,rb,m⟩=>?_
  cases e1:op2 o da db with
  |ok d=>
   rw[e1]at m;obtain⟨i,j,rfl,rfl,c,rfl⟩:=e da db d e1;exact⟨i,j,ra.int,rb.int,c,m _ _ (qf.refl _) (.int _) (λz=>nomatch z)⟩
  |ex c=>rw[e1]at m;exact m.elim
  |no=>rw[e1]at m;exact m.elim
 have two0:∀{f:ae->ae->Sem ae}{q:Int->Int->Int} (o:O2),OpR X f (rI0 λi j=>.int (q i j))->(∀da db d,op2 o da db=.ok d->∃i j,da=.int i/\db=.int j/\d=.int (q i j))->OpR X f (rOp g o):=λ{f q} o k e=>
  two (C:=λ_ _=>True) (q:=q) o (OpR.imp k λx y H Q ⟨i,j,h1,h2,_,h3⟩=>⟨i,j,h1,h2,h3⟩) λda db d h=>by
   obtain⟨i,j,h1,h2,h3⟩:=e da db d h;exact⟨i,j,h1,h2,trivial,h3⟩
 cases op<;>simp only[o2,bB]at h<;>first|subst h|cases h
 ·-- Add
  refine OpR.imp (v_.or (uU.or r0)) λx y H Q ⟨S,da,db,hs,ra,rb,m⟩=>?_
  cases da with
  |int i=>
   cases db with
   |int j=>exact .inl ⟨i,j,ra.int,rb.int,m _ _ (qf.refl _) (.int _) (λz=>nomatch z)⟩
   |_=>exact m.elim
  |tup xs=>
   cases db with
   |tup ys=>
    simp only[op2,true_and]at m;split at m
    ·rename_i e
     split at e<;>cases e
     rename_i hz
     obtain⟨a,vs,rfl,h1,r1⟩:=ra.tup;obtain⟨b,us,rfl,h2,r2⟩:=rb.tup;refine .inr (.inl ⟨a,b,vs,us,rfl,rfl,by rw[hK];exact h1,by rw[hK];exact h2,by rw[<-r1.length,<-r2.length];exact kc hz,λe=>?_,λ_ e=>?_,λ_ _ p hp=>?_⟩)
     ·subst e;cases r1;exact m _ _ (qf.refl _) (rb.strong (by intro _ z;cases z)) (λz=>nomatch z)
     ·subst e;cases r2;rw[List.append_nil]at m;exact m _ _ (qf.refl _) (ra.strong (by intro _ z;cases z)) (λz=>nomatch z)
     ·exact m _ _ (zi hp) (dN hs hp (r1.append r2)) (λz=>nomatch z)
    ·exact m.elim
   |_=>exact m.elim
  |lst xs=>
   cases db with
   |lst ys=>
    simp only[op2,true_and]at m;split at m
    ·rename_i e
     split at e<;>cases e
     rename_i hz
     obtain⟨a,vs,rfl,h1,r1⟩:=ra.lst;obtain⟨b,us,rfl,h2,r2⟩:=rb.lst;refine .inr (.inr ⟨a,b,vs,us,rfl,rfl,by rw[hK];exact h1,by rw[hK];exact h2,by rw[<-r1.length,<-r2.length];exact kc hz,λp hp=>?_⟩);exact m _ _ (zi hp) (eY hs hp (r1.append r2)) (λ_=>fO (qf.refl _) hp (r1.append r2))
    ·exact m.elim
   |_=>exact m.elim
  |_=>exact m.elim
 ·exact two0 .sub uX λda db d h=>by obtain⟨i,j,rfl,rfl,h'⟩:=eG (by decide) (by decide) h;clear h;rename _=>h;cases h;exact⟨_,_,rfl,rfl,rfl⟩
 ·refine OpR.imp px λx y H Q ⟨S,da,db,hs,ra,rb,m⟩=>?_
  cases e1:op2 .mul da db with
  |ok d=>
   rw[e1]at m;unfold op2 at e1;split at e1
   ·simp only[opI]at e1;split at e1
    ·rename_i i j hc
     cases e1;refine⟨i,j,ra.int,rb.int,?_,m _ _ (qf.refl _) (.int _) (λz=>nomatch z)⟩;rcases(by simpa using hc)with z|z
     ·exact .inl (kZ z)
     ·exact .inr (kZ z)
    ·cases e1
   ·rw[if_neg (λz=>nomatch z.1)]at e1;cases e1
   ·rw[if_neg (λz=>nomatch z.1)]at e1;cases e1
   ·cases e1
  |ex c=>rw[e1]at m;exact m.elim
  |no=>rw[e1]at m;exact m.elim
 ·exact two .mod sZ λda db d h=>by obtain⟨i,j,rfl,rfl,h'⟩:=eG (by decide) (by decide) h;clear h;rename _=>h;simp only[opI]at h;split at h<;>cases h;rename_i hc;exact⟨_,_,rfl,rfl,hc,rfl⟩
 ·exact two .pow vB λda db d h=>by obtain⟨i,j,rfl,rfl,h'⟩:=eG (by decide) (by decide) h;clear h;rename _=>h;simp only[opI]at h;split at h<;>cases h;rename_i hc;exact⟨_,_,rfl,rfl,hc,rfl⟩
 ·exact two .shr xt λda db d h=>by obtain⟨i,j,rfl,rfl,h'⟩:=eG (by decide) (by decide) h;clear h;rename _=>h;simp only[opI]at h;split at h<;>cases h;rename_i hc;exact⟨_,_,rfl,rfl,hc,rfl⟩
 ·exact two .fdiv mT λda db d h=>by obtain⟨i,j,rfl,rfl,h'⟩:=eG (by decide) (by decide) h;clear h;rename _=>h;simp only[opI]at h;split at h<;>cases h;rename_i hc;exact⟨_,_,rfl,rfl,hc,rfl⟩
theorem gy(hK:X.K=g.K){pins:List (Addr×Obj)}{σ:L2.St}{H:Hp}{s:af}(I:Inv X pins σ H s){d:D}{v:V}{u:ae}(r:Rep g H d v)(a:d.asks=true)(ru:RelV v u):∃as,Reads s.heap u d.py as/\d.py.canLay0=true/\d.py.depth<=20:=by
 obtain⟨h1,h2⟩:=fq.mp a;have h:=r.data h1;rw[<-hK]at h;obtain⟨as,q⟩:=I.reads h ru;exact⟨as,q,i9 h1,by rw[jC];exact h2⟩
theorem kN:∀(a b:List Int),cX a b=HT.lexLt a b
 | [],[]=>by simp[cX,HT.lexLt]
 | [],_::_=>by simp[cX,HT.lexLt]
 |_::_,[]=>by simp[cX,HT.lexLt]
 |a::r,b::t=>by
  simp only[cX,HT.lexLt];rw[kN r t]
  try (by_cases h:a=b<;>simp[h])
noncomputable def rCm(g:Gc)(c:C2):R2:=λx y H Q=>∃S da db,zp g H S da x/\zp g H S db y /\
 match qw c da db with
 | .ok b=>Q (.bl b) H
 |_=>False
open Classical in
noncomputable def cC(h:Heap)(q:PyData)(u:ae):Bool:=if e:∃d as,Reads h u d as then PyData.eqv e.choose q else false
theorem iW{h:Heap}{q d:PyData}{u:ae}{as:List Addr}(r:Reads h u d as):cC h q u=PyData.eqv d q:=by
 have e:∃d as,Reads h u d as:=⟨d,as,r⟩
 unfold cC;rw[dif_pos e];obtain⟨bs,r'⟩:=e.choose_spec;rw[(PySem.Reads.unique r' d as r).1]
theorem any_eq(hK:X.K=g.K){pins:List (Addr×Obj)}{σ:L2.St}{H:Hp}{s:af}(I:Inv X pins σ H s){da:D}(ha:da.asks=true){ds:List D}:∀{vs:List V}{us:List ae},za g H ds vs->Vals vs us->ds.all D.asks=true ->
  us.any (cC s.heap da.py)=inD da ds/\∀u∈us,∃d as,Reads s.heap u d as/\d.canLay0=true/\d.depth<=20:=by
 induction ds with
 |nil=>intro vs us h r _;cases h;cases r;exact⟨rfl,λu h=>nomatch h⟩
 |cons d ds ih=>
  intro vs us h q e;cases h with
  |cons h r=>cases q with
   |cons q t=>
    rw[List.all_cons,aB]at e;obtain⟨as,h1,h2,h3⟩:=gy hK I h e.1 q;obtain⟨i1,i2⟩:=ih r t e.2;refine⟨?_,λu hu=>?_⟩
    ·rw[List.any_cons,i1,iW h1,gS _ _ (fq.mp e.1).1 (fq.mp ha).1]
     rfl
    ·rcases aI.mp hu with rfl|hu
     ·exact⟨_,as,h1,h2,h3⟩
     ·exact i2 u hu
theorem so{A:av}{s:af}{u v:ae}{d:PyData}{as:List Addr}{q:PyData}{bs:List Addr}(hu:A.units+60<cLine)(r:Reads s.heap u d as)(r':Reads s.heap v q bs)(h1:d.canLay0=true)(h2:q.canLay0=true)(h3:d.depth<=20):SeqAt.EqAt A.in1 s u v (cC s.heap q u):=by
 rw[iW r];refine SeqAt.eqAt_reads d q A.in1 s u v as bs r r' h1 h2 ?_;have:min d.depth q.depth<=d.depth:=Nat.min_le_left _ _;show A.units+1+_<_;lia
theorem kH(hK:X.K=g.K)(hu:X.A.units+64<cLine)(neg:Bool):OpR X (aO (if neg then .NotIn else .In)) (λx y H Q=>∃S da db ds,zp g H S da x/\zp g H S db y/\seq? db=some ds/\da.asks=true/\ds.all D.asks=true/\Q (.bl (if neg then !inD da ds else inD da ds)) H):=by
 intro pins s σ H x y v u Q I rx ry h;obtain⟨S,da,db,ds,ra,rb,es,aa,ad,q⟩:=h;obtain⟨as,h1,h2,h3⟩:=gy hK I ra.rep aa rx;obtain⟨a,vs,rfl,hsq,rr⟩:=rb.seq es;cases ry;have go:∀{its:List ae},Vals vs its->(∀w∈its.toArray,SeqAt.EqAt X.A.in1 s w v (cC s.heap da.py w))/\its.toArray.any (cC s.heap da.py)=inD da ds:=λ{its} rv=>by
  obtain⟨i1,i2⟩:=any_eq hK I aa (rr.mono cg) rv ad;refine⟨λw hw=>?_,by simpa using i1⟩;obtain⟨d,bs,r1,r2,r3⟩:=i2 w (by simpa using hw);exact so (Nat.lt_of_le_of_lt (Nat.add_le_add_left (by decide) _) hu) r1 h1 r2 h2 r3
 rcases hsq with hsq|hsq
 ·obtain⟨its,rv,pl,_⟩:=I.list (by rw[hK];exact hsq);obtain⟨g1,g2⟩:=go rv;cases neg with
  |false=>exact SeqAt.in_listAt (cC s.heap da.py) pl.isList g1 ⟨.bl _,H,I,rfl,by rw[g2];exact q⟩
  |true=>exact SeqAt.notIn_listAt (cC s.heap da.py) pl.isList g1 ⟨.bl _,H,I,rfl,by rw[g2];exact q⟩
 ·obtain⟨its,rv,pl,_⟩:=I.tuple (by rw[hK];exact hsq);obtain⟨g1,g2⟩:=go rv;cases neg with
  |false=>exact SeqAt.in_tupleAt (cC s.heap da.py) pl g1 ⟨.bl _,H,I,rfl,by rw[g2];exact q⟩
  |true=>exact SeqAt.notIn_tupleAt (cC s.heap da.py) pl g1 ⟨.bl _,H,I,rfl,by rw[g2];exact q⟩
theorem l0(hK:X.K=g.K)(hu:X.A.units+64<cLine)(neg:Bool):OpR X (aO (if neg then .NotEq else .Eq)) (λx y H Q=>∃S da db,zp g H S da x/\zp g H S db y/\da.asks=true/\db.asks=true/\Q (.bl (if neg then !da.eqv db else da.eqv db)) H):=by
 intro pins s σ H x y v u Q I rx ry h;obtain⟨S,da,db,ra,rb,aa,ab,q⟩:=h;obtain⟨as,h1,h2,h3⟩:=gy hK I ra.rep aa rx;obtain⟨bs,k1,k2,k3⟩:=gy hK I rb.rep ab ry;have e:=gS da db (fq.mp aa).1 (fq.mp ab).1;have room:X.A.units+min da.py.depth db.py.depth<cLine:=by
  have:min da.py.depth db.py.depth<=da.py.depth:=Nat.min_le_left _ _;lia
 cases neg with
 |false=>exact SeqAt.compareEq_reads h1 k1 h2 k2 room ⟨.bl _,H,I,by rw[e];rfl,q⟩
 |true=>exact SeqAt.compareNe_reads h1 k1 h2 k2 room ⟨.bl _,H,I,by rw[e];rfl,q⟩
theorem zp.non_iff{S:Sh}{H:Hp}{d:D}{v:V}(r:zp g H S d v):decide (v=.non)=fg d:=by
 cases r.rep<;>rfl
theorem cB{op:CmpOp}{c:C2}{r:R2}(h:OpR X (aO op) r)(k:∀S da db b x y H Q,zp g H S da x->zp g H S db y->qw c da db=.ok b->Q (.bl b) H->r x y H Q):OpR X (aO op) (rCm g c):=by
 refine OpR.imp h λx y H Q ⟨S,da,db,ra,rb,m⟩=>?_
 cases e:qw c da db with
 |ok b=>rw[e]at m;exact k S da db b x y H Q ra rb e m
 |ex c'=>rw[e]at m;exact m.elim
 |no=>rw[e]at m;exact m.elim
theorem mh:OpR X (aO .Is) (λx y H Q=>∃a b,x=.bl a/\y=.bl b/\Q (.bl (a==b)) H):=by
 intro pins s σ H x y v u Q I rx ry h;obtain⟨a,b,rfl,rfl,q⟩:=h;cases rx;cases ry;exact is_bool (fN I q rfl)
theorem mj:OpR X (aO .IsNot) (λx y H Q=>∃a b,x=.bl a/\y=.bl b/\Q (.bl (!(a==b))) H):=by
 intro pins s σ H x y v u Q I rx ry h;obtain⟨a,b,rfl,rfl,q⟩:=h;cases rx;cases ry;exact isnot_bool (fN I q rfl)
theorem jW{n:Bool}{a b:EV.D}{c:Bool}(h:isB n a b=.ok c):∃x y,a=.bl x/\b=.bl y/\c=(n != (x==y)):=by
 unfold isB at h;split at h
 ·cases h;exact⟨_,_,rfl,rfl,rfl⟩
 ·cases h
theorem ck(hK:X.K=g.K)(hu:X.A.units+64<cLine)(op:CmpOp):OpR X (aO op) (rCm g (c2 op)):=by
 cases op
 ·exact cB (l0 hK hu false) λS da db b x y H Q ra rb e q=>by
   simp only[c2,qw]at e;split at e<;>cases e
   rename_i a
   simp only[aB]at a;exact⟨S,da,db,ra,rb,a.1,a.2,q⟩
 ·exact cB (l0 hK hu true) λS da db b x y H Q ra rb e q=>by
   simp only[c2,qw]at e;split at e<;>cases e
   rename_i a
   simp only[aB]at a;exact⟨S,da,db,ra,rb,a.1,a.2,q⟩
 ·exact cB (oC.or (xr (by lia))) λS da db b x y H Q ra rb e q=>by
   simp only[c2]at e;cases da with
   |int i=>
    cases db with
    |int j=>cases e;exact .inl ⟨i,j,ra.int,rb.int,q⟩
    |_=>cases e
   |tup xs=>
    cases db with
    |tup ys=>
     simp only[qw]at e;split at e
     ·rename_i ns ms e1 e2
      cases e;obtain⟨a,vs,rfl,h1,r1⟩:=ra.tup;obtain⟨b,us,rfl,h2,r2⟩:=rb.tup;obtain⟨rfl,_⟩:=r1.ints e1;obtain⟨rfl,_⟩:=r2.ints e2;exact .inr ⟨a,b,ns,ms,rfl,rfl,by rw[hK];exact h1,by rw[hK];exact h2,kN ns ms▸q⟩
     ·cases e
    |_=>cases e
   |_=>cases db<;>cases e
 ·exact cB mS λS da db b x y H Q ra rb e q=>by
   cases da with
   |int i=>
    cases db with
    |int j=>cases e;exact⟨_,_,ra.int,rb.int,q⟩
    |_=>cases e
   |_=>cases e
 ·exact cB rK λS da db b x y H Q ra rb e q=>by
   cases da with
   |int i=>
    cases db with
    |int j=>cases e;exact⟨_,_,ra.int,rb.int,q⟩
    |_=>cases e
   |_=>cases e
 ·exact cB uH λS da db b x y H Q ra rb e q=>by
   cases da with
   |int i=>
    cases db with
    |int j=>cases e;exact⟨_,_,ra.int,rb.int,q⟩
    |_=>cases e
   |_=>cases e
 ·exact cB (vA.or mh) λS da db b x y H Q ra rb e q=>by
   simp only[c2,qw]at e;split at e
   ·rename_i hd
    cases e;have hd:db=.non:=by cases db<;>first|rfl|cases hd
    subst hd;cases rb.rep;exact .inl ⟨rfl,by rw[ra.non_iff];exact q⟩
   ·obtain⟨a,c,rfl,rfl,rfl⟩:=jW e;cases ra.rep;cases rb.rep;exact .inr ⟨a,c,rfl,rfl,by cases a<;>cases c<;>exact q⟩
 ·exact cB (oi.or mj) λS da db b x y H Q ra rb e q=>by
   simp only[c2,qw]at e;split at e
   ·rename_i hd
    cases e;have hd:db=.non:=by cases db<;>first|rfl|cases hd
    subst hd;cases rb.rep;exact .inl ⟨rfl,by rw[ra.non_iff];exact q⟩
   ·obtain⟨a,c,rfl,rfl,rfl⟩:=jW e;cases ra.rep;cases rb.rep;exact .inr ⟨a,c,rfl,rfl,by cases a<;>cases c<;>exact q⟩
 ·exact cB (kH hK hu false) λS da db b x y H Q ra rb e q=>by
   simp only[c2,qw]at e;split at e
   ·rename_i xs es
    split at e<;>cases e
    rename_i a
    simp only[aB]at a;exact⟨S,da,db,xs,ra,rb,es,a.1,a.2,q⟩
   ·cases e
 ·exact cB (kH hK hu true) λS da db b x y H Q ra rb e q=>by
   simp only[c2,qw]at e;split at e
   ·rename_i xs es
    split at e<;>cases e
    rename_i a
    simp only[aB]at a;exact⟨S,da,db,xs,ra,rb,es,a.1,a.2,q⟩
   ·cases e
end
abbrev dA(g:Gc)(H:Hp)(S:Sh):List D->List V->Prop:=Paired (zp g H S)
section
variable{X:Cx}{g:Gc}
theorem lO{H:Hp}{ds:List D}{vs:List V}{i:Int}{d:D}(r:za g H ds vs)(e:atI ds i=some d):∃v,atI vs i=some v/\Rep g H d v:=by
 unfold atI at e ⊢;rw[<-r.length];cases q:ixN ds.length i with
 |none=>rw[q]at e;cases e
 |some j=>rw[q]at e;exact r.get e
noncomputable def rO(g:Gc):R2:=λx y H Q=>∃S da db,zp g H S da x/\zp g H S db y /\
 match ixD da db with
 | .ok d=>∀v,Rep g (hid H S) d v->Q v H
 |_=>False
theorem ni(hK:X.K=g.K):IxR X (rO g):=by
 have k:IxR X (λx y H Q=>lR X.K x y H Q\/jX X.K x y H Q):=uM.or uj;intro value slice pins s σ H x y v u Q I rx ry h hs;refine k value slice pins s σ H x y v u Q I rx ry ?_ hs;obtain⟨S,da,db,ra,rb,m⟩:=h;cases da with
 |tup xs=>
  cases db with
  |int i=>
   simp only[ixD]at m;cases e:atI xs i with
   |none=>rw[e]at m;exact m.elim
   |some d=>
    rw[e]at m;obtain⟨a,vs,rfl,h1,r1⟩:=ra.tup;obtain⟨w,h2,h3⟩:=lO r1 e;exact .inr ⟨a,vs,i,w,rfl,rb.int,by rw[hK];exact h1,h2,m w h3⟩
  |_=>exact m.elim
 |lst xs=>
  cases db with
  |int i=>
   simp only[ixD]at m;cases e:atI xs i with
   |none=>rw[e]at m;exact m.elim
   |some d=>
    rw[e]at m;obtain⟨a,vs,rfl,h1,r1⟩:=ra.lst;obtain⟨w,h2,h3⟩:=lO r1 e;exact .inl ⟨a,vs,i,w,rfl,rb.int,by rw[hK];exact h1,h2,m w h3⟩
  |_=>exact m.elim
 |_=>exact m.elim
noncomputable def oH(g:Gc):V->Option Int->Option Int->Hp->VK->Prop:=λx lo hi H Q=>∃S da,Sub S H/\zp g H S da x /\
 match slD da lo hi with
 | .ok d=>∀v H',qf H H'->Rep g (hid H' S) d v->Q v H'
 |_=>False
theorem lZ{H:Hp}{ds:List D}{vs:List V}(r:za g H ds vs)(lo hi:Option Int):za g H (cutD ds lo hi) (dz vs lo hi):=by
 unfold cutD dz;rw[r.length];exact(r.drop _).take _
theorem tN(hK:X.K=g.K):SlR X (oH g):=by
 intro pins s σ H x v vl vu lo hi sl Q I rx hs pl pu h;obtain⟨S,da,hS,ra,m⟩:=h;cases da with
 |lst xs=>
  obtain⟨a,vs,rfl,h1,r1⟩:=ra.lst;exact vi pins s σ H _ v vl vu lo hi sl Q I rx hs pl pu ⟨a,vs,rfl,by rw[hK];exact h1,λp hp=>m _ _ (zi hp) (eY hS hp (lZ r1 lo hi))⟩
 |tup xs=>
  obtain⟨a,vs,rfl,h1,r1⟩:=ra.tup;simp only[slD]at m;by_cases hw:HT.sIx xs.length 0 lo=0/\HT.sIx xs.length xs.length hi=xs.length
  ·have e:cutD xs lo hi=xs:=by unfold cutD;rw[hw.1,hw.2];simp
   rw[e]at m;rw[r1.length]at hw;exact uY pins s σ H _ v vl vu lo hi sl Q I rx hs pl pu ⟨a,vs,rfl,by rw[hK];exact h1,hw.1,hw.2,m _ _ (qf.refl _) (ra.strong (by intro _ z;cases z))⟩
  ·rw[r1.length]at hw;exact pq pins s σ H _ v vl vu lo hi sl Q I rx hs pl pu ⟨a,vs,rfl,by rw[hK];exact h1,hw,λp hp=>m _ _ (zi hp) (dN hS hp (lZ r1 lo hi))⟩
 |_=>exact m.elim
noncomputable def b1V:B1->ae
 | .len=>.builtin "len"
 | .tuple=>.type "tuple"
 | .list=>.type "list"
 | .sorted=>.builtin "sorted"
 | .all=>.builtin "all"
 | .any=>.builtin "any"
 | .sum=>.builtin "sum"
 | .min=>.builtin "min"
 | .max=>.builtin "max"
 | .abs=>.builtin "abs"
 | .int=>.type "int"
 | .bool=>.type "bool"
noncomputable def rB1(g:Gc)(b:B1):List V->Hp->VK->Prop:=λvs H Q=>∃S ds,Sub S H/\dA g H S ds vs /\
 match b1 b ds with
 | .ok d=>∀v H',qf H H'->Rep g (hid H' S) d v->(b=.list\/b=.sorted->Fr g H S H' d v)->Q v H'
 |_=>False
theorem zh.imp{f:ae}{r r':List V->Hp->VK->Prop}(h:zh X f r)(i:∀xs H Q,r' xs H Q->r xs H Q):zh X f r':=
 λpins s σ H xs us Q I rv q=>h pins s σ H xs us Q I rv (i _ _ _ q)
theorem dH{f:ae}{b:B1}{r:List V->Hp->VK->Prop}(h:zh X f r)
  (k:∀S ds d vs H Q,Sub S H->dA g H S ds vs->b1 b ds=.ok d->(∀v H',qf H H'->Rep g (hid H' S) d v->(b=.list\/b=.sorted->Fr g H S H' d v)->Q v H')->r vs H Q):zh X f (rB1 g b):=by
 refine zh.imp h λvs H Q ⟨S,ds,hs,rs,m⟩=>?_
 cases e:b1 b ds with
 |ok d=>rw[e]at m;exact k S ds d vs H Q hs rs e m
 |ex c=>rw[e]at m;exact m.elim
 |no=>rw[e]at m;exact m.elim
theorem gw{f:ae}{b:B1}(h1:∀d,b11 b d=.no)(h2:∀d e,b12 b d e=.no):zh X f (rB1 g b):=λpins s σ H xs us Q I rv ⟨S,ds,hs,rs,m⟩=>by
 have e:b1 b ds=.no:=by
  unfold b1;split
  ·exact h1 _
  ·exact h2 _ _
  ·rfl
 rw[e]at m;exact m.elim
theorem gO{b:B1}(hb:∀x y,b12 b x y=.no){ds:List D}{d:D}(h:b1 b ds=.ok d):∃x,ds=[x]/\b11 b x=.ok d:=by
 match ds,h with
 | [x],h=>exact⟨x,rfl,h⟩
 | [x,y],h=>have h:b12 b x y=.ok d:=h;rw[hb]at h;cases h
 | [],h=>cases h
 |_::_::_::_,h=>cases h
theorem h_{x r:D}{k:List D->R D}(h:cm x k=.ok r):∃xs,x=.lst xs/\k xs=.ok r:=by
 cases x with
 |lst xs=>exact⟨xs,rfl,h⟩
 |_=>cases h
theorem ll{x y r:D}{k:Int->Int->R D}(h:iiR x y k=.ok r):∃i j,x=.int i/\y=.int j/\k i j=.ok r:=by
 cases x with
 |int i=>
  cases y with
  |int j=>exact⟨i,j,rfl,rfl,h⟩
  |_=>cases h
 |_=>cases h
theorem gI{α β:Type}{o:Option α}{k:α->R β}{r:β}(h:bP o k=.ok r):∃a,o=some a/\k a=.ok r:=by
 cases o with
 |some a=>exact⟨a,rfl,h⟩
 |none=>cases h
theorem ip{b:B1}{ds:List D}{d:D}{q:List D->R D}(h:b1 b ds=.ok d)(e:∀x,b1 b [x]=bP (seq? x) q)(n:ds.length≠1->b1 b ds=.no):∃x xs,ds=[x]/\seq? x=some xs/\q xs=.ok d:=by
 match ds with
 | []=>rw[n (by simp)]at h;cases h
 | [x]=>
  rw[e]at h;cases z:seq? x with
  |none=>rw[z]at h;cases h
  |some xs=>rw[z]at h;exact⟨x,xs,rfl,z,h⟩
 |x::y::r=>rw[n (by simp)]at h;cases h
theorem m3(hK:X.K=g.K):zh X (.builtin "len") (rB1 g .len):=dH uk λS ds d vs H Q hs rs h q=>by
 obtain⟨x,xs,rfl,e,h⟩:=ip (q:=λxs=>.ok (.int xs.length)) h (λ_=>rfl) (λn=>by match ds,n with | [],_=>rfl | [_,_],_=>rfl|_::_::_::_,_=>rfl);cases h;cases rs with
 |cons r rs=>
  cases rs;obtain⟨a,us,rfl,h1,r1⟩:=r.seq e;exact⟨a,us,rfl,by rw[hK];exact h1,by rw[<-r1.length];exact q _ _ (qf.refl _) (.int _) (by simp)⟩
theorem rh(hK:X.K=g.K):zh X (.type "tuple") (rB1 g .tuple):=dH o6 λS ds d vs H Q hs rs h q=>by
 obtain⟨x,xs,rfl,e,h⟩:=ip (q:=λxs=>.ok (.tup xs)) h (λ_=>rfl) (λn=>by match ds,n with | [],_=>rfl | [_,_],_=>rfl|_::_::_::_,_=>rfl);cases h;cases rs with
 |cons r rs=>
  cases rs;cases x with
  |lst ys=>
   cases e;obtain⟨a,us,rfl,h1,r1⟩:=r.lst;exact⟨a,us,rfl,.inl ⟨by rw[hK];exact h1,λp hp=>q _ _ (zi hp) (dN hs hp r1) (by simp)⟩⟩
  |tup ys=>
   cases e;have z:=r.strong (by intro _ z;cases z);obtain⟨a,us,rfl,h1,r1⟩:=r.tup;exact⟨a,us,rfl,.inr ⟨by rw[hK];exact h1,q _ _ (qf.refl _) z (by simp)⟩⟩
  |_=>cases e
theorem v8(hK:X.K=g.K):zh X (.type "list") (rB1 g .list):=dH ux λS ds d vs H Q hs rs h q=>by
 obtain⟨x,xs,rfl,e,h⟩:=ip (q:=λxs=>.ok (.lst xs)) h (λ_=>rfl) (λn=>by match ds,n with | [],_=>rfl | [_,_],_=>rfl|_::_::_::_,_=>rfl);cases h;cases rs with
 |cons r rs=>
  cases rs;obtain⟨a,us,rfl,h1,r1⟩:=r.seq e;exact⟨a,us,rfl,by rw[hK];exact h1,λp hp=>q _ _ (zi hp) (eY hs hp r1) λ_=>fO (qf.refl _) hp r1⟩
theorem mD(hc:X.calm=true)(al:Bool):zh X (.builtin (if al then "all" else "any")) (λxs H Q=>∃(l:Addr) (bs:List Bool),xs=[.ref l]/\SqL X.K H l (bs.map V.bl)/\Q (.bl (if al then bs.all id else bs.any id)) H):=by
 intro pins s σ H xs us Q I r h;obtain⟨l,bs,rfl,hl,q⟩:=h;obtain⟨u,rfl,ru⟩:=r.one;cases ru;obtain⟨its,rv,pl,hz⟩:=I.list hl;have e:=gF (A:=X.A) rv;subst e;have hlt:l<s.heap.objs.size:=by obtain⟨_,e,_⟩:=pl.isList;exact aE e
 have tr:TruthOf X.prog X.w X.A.in1 (λi v=>(bs.map a7).toArray[i]? = some v) (λi=>(bs[i]?).getD al):=λi v s' Q' E' hP hQ=>by
  have hv:(bs.map a7)[i]? = some v:=by simpa using hP
  rw[List.getElem?_map]at hv;cases e:bs[i]? with
  |none=>rw[e]at hv;cases hv
  |some b=>
   rw[e]at hv;cases hv;simp only[e,Option.getD_some]at hQ;exact ba hQ
 have wk:=Walks.list (prog:=X.prog) (w:=X.w) (A:=X.A.in1) (I.ok.hd hc) s.heap.objs.size l (aU hlt) (bs.map a7).toArray;cases al with
 |true=>
  refine call_all_walk (wpAny_pyIter_list pl.isList ?_);refine⟨s.heap.objs.size,[s.heap.objs.size,l],[s.heap.objs.size],_,_,_,_,rfl,wk,⟨⟨_,Heap.get?_push_size _ rfl,rfl,rfl⟩,pl.isList.push _⟩,tr,λh' tk hk=>?_⟩;have e:((aZ (bs.map a7).toArray.size).all λi=>(bs[i]?).getD true)=bs.all id:=by
   rw[aN,bK];exact LSm.range_all bs
  rw[e];exact⟨.bl _,H,I.kept (LSm.kept_iter hk),rfl,q⟩
 |false=>
  refine call_any_walk (wpAny_pyIter_list pl.isList ?_);refine⟨s.heap.objs.size,[s.heap.objs.size,l],[s.heap.objs.size],_,_,_,_,rfl,wk,⟨⟨_,Heap.get?_push_size _ rfl,rfl,rfl⟩,pl.isList.push _⟩,tr,λh' tk hk=>?_⟩;have e:((aZ (bs.map a7).toArray.size).any λi=>(bs[i]?).getD false)=bs.any id:=by
   rw[aN,bK,Bool.eq_iff_iff];simp only[List.any_eq_true,List.mem_range,id];constructor
   ·rintro⟨i,hi,e⟩;rw[List.getElem?_eq_getElem hi]at e;exact⟨_,List.getElem_mem hi,e⟩
   ·rintro⟨b,hb,e⟩;obtain⟨i,hi,rfl⟩:=List.getElem_of_mem hb;exact⟨i,hi,by rw[List.getElem?_eq_getElem hi];exact e⟩
  rw[e];exact⟨.bl _,H,I.kept (LSm.kept_iter hk),rfl,q⟩
theorem l8(hK:X.K=g.K)(hc:X.calm=true)(al:Bool):zh X (.builtin (if al then "all" else "any")) (rB1 g (if al then .all else .any)):=dH (mD hc al) λS ds d vs H Q hs rs h q=>by
 obtain⟨xs,bs,rfl,e,rfl⟩:∃xs bs,ds=[.lst xs]/\bools? xs=some bs/\d=.bl (if al then bs.all id else bs.any id):=by
  cases al
  ·obtain⟨x,rfl,h'⟩:=gO (λ_ _=>rfl) h;obtain⟨xs,rfl,h'⟩:=h_ h';obtain⟨bs,e,h'⟩:=gI h';cases h';exact⟨xs,bs,rfl,e,rfl⟩
  ·obtain⟨x,rfl,h'⟩:=gO (λ_ _=>rfl) h;obtain⟨xs,rfl,h'⟩:=h_ h';obtain⟨bs,e,h'⟩:=gI h';cases h';exact⟨xs,bs,rfl,e,rfl⟩
 cases rs with
 |cons r rs=>
  cases rs;obtain⟨a,us,rfl,h1,r1⟩:=r.lst;have e2:=r1.bools e;subst e2;exact⟨a,bs,rfl,by rw[hK];exact h1,q _ _ (qf.refl _) (.bl _) (by cases al<;>simp)⟩
end
end EV
namespace TS
open PySem PyProof.Rows
structure Cmp(prog:aw)(w:ar)(A:av)(s:af)(κ:SortKind)(D:ay->Prop)(LT:ay->ay->Bool):Prop where
 lt:∀x y,D x->D y->∀Q:Bool->af->Prop,Q (LT x y) s->ak (ao prog w) A (keyLt' κ x.1 y.1) Q (λ_ _=>False) s
 asym:∀x y,LT x y=true->LT y x=false
 neg:∀x y z,LT y x=false->LT z y=false->LT z x=false
section
variable{prog:aw}{w:ar}{A:av}{E:ae->af->Prop}{s:af}{κ:SortKind}{D:ay->Prop}{LT:ay->ay->Bool}
end
section
variable{LT:ay->ay->Bool}
abbrev df:Keyed:=(ae.none,ae.none)
noncomputable def at'(a:Array ay)(i:Nat):Keyed:=a.getD i df
variable{a b out:Array ay}{ia ib:Nat}
end
section
variable{prog:aw}{w:ar}{A:av}{E:ae->af->Prop}{s:af}{κ:SortKind}{D:ay->Prop}{LT:ay->ay->Bool}
end
section
variable{LT:ay->ay->Bool}
variable{a b out:Array ay}{na nb:Nat}
end
section
variable{prog:aw}{w:ar}{A:av}{E:ae->af->Prop}{s:af}{κ:SortKind}{D:ay->Prop}{LT:ay->ay->Bool}
end
structure SB(κ:SortKind)(p:Array (Nat×Nat×Nat))(a₁:Array ay)(lo:Nat)(st:SortSt):Prop where
 kd:kindOf st=κ
 fl:failedOf st=none
 pn:pendingOf st=p
 pm:(arrOf st).Perm a₁
 lw:∀i,i<lo->at' (arrOf st) i=at' a₁ i
noncomputable def Kr(R:ay->Int)(xs:Array ay)(i:Nat):Int:=R (at' xs i)
noncomputable def Seg(R:ay->Int)(xs:Array ay)(lo n:Nat):Prop:=∀i j,i<=j->j<n->Kr R xs (lo+i)<=Kr R xs (lo+j)
noncomputable def Dsc(R:ay->Int)(xs:Array ay)(lo n:Nat):Prop:=∀i j,i<=j->j<n->Kr R xs (lo+j)<=Kr R xs (lo+i)
section
variable{prog:aw}{w:ar}{A:av}{E:ae->af->Prop}{s:af}{κ:SortKind}{D:ay->Prop}{LT:ay->ay->Bool}{R:ay->Int}{p:Array (Nat×Nat×Nat)}{a₁:Array ay}{lo:Nat}
theorem SB.size{st:SortSt}(h:SB κ p a₁ lo st):(arrOf st).size=a₁.size:=h.pm.size_eq
end
section
variable{prog:aw}{w:ar}{A:av}{E:ae->af->Prop}{s:af}{κ:SortKind}{D:ay->Prop}{LT:ay->ay->Bool}{R:ay->Int}{p:Array (Nat×Nat×Nat)}{a₁:Array ay}{lo:Nat}{xs:Array ay}
theorem Seg.one:Seg R xs lo 1:=λi j a b=>by rw[show i=j by lia];exact Int.le_refl _
theorem Dsc.one:Dsc R xs lo 1:=λi j a b=>by rw[show i=j by lia];exact Int.le_refl _
noncomputable def Flat(R:ay->Int)(xs:Array ay)(lo m neq:Nat):Prop:=∀i,lo+m-(neq+1)<=i->i<lo+m->Kr R xs i=Kr R xs (lo+m-1)
theorem Flat.zero{m:Nat}:Flat R xs lo m 0:=λi a b=>by rw[show i=lo+m-1 by lia]
end
section
variable{prog:aw}{w:ar}{A:av}{E:ae->af->Prop}{s:af}{κ:SortKind}{D:ay->Prop}{LT:ay->ay->Bool}{R:ay->Int}
end
section
variable{prog:aw}{w:ar}{A:av}{E:ae->af->Prop}{s:af}{κ:SortKind}{D:ay->Prop}{LT:ay->ay->Bool}{R:ay->Int}
end
noncomputable def pr(x:Nat×Nat×Nat):Nat×Nat:=(x.1,x.2.1)
noncomputable def Runs(R:ay->Int)(a:Array ay):Nat->List (Nat×Nat)->Nat->Prop
 |b,[],e=>b=e
 |b,x::l,e=>x.1=b/\1<=x.2/\Seg R a b x.2/\Runs R a (b+x.2) l e
section
variable{R:ay->Int}{a a':Array ay}
end
structure SR(κ:SortKind)(R:ay->Int)(a₁:Array ay)(lo:Nat)(st:SortSt):Prop where
 kd:kindOf st=κ
 fl:failedOf st=none
 pm:(arrOf st).Perm a₁
 rn:Runs R (arrOf st) 0 ((pendingOf st).toList.map pr) lo
 le:lo<=a₁.size
section
variable{prog:aw}{w:ar}{A:av}{E:ae->af->Prop}{s:af}{κ:SortKind}{D:ay->Prop}{LT:ay->ay->Bool}{R:ay->Int}{a₁:Array ay}{lo:Nat}
theorem SR.sz{st:SortSt}(h:SR κ R a₁ lo st):(arrOf st).size=a₁.size:=h.pm.size_eq
end
section
variable{prog:aw}{w:ar}{A:av}{E:ae->af->Prop}{s:af}{κ:SortKind}{D:ay->Prop}{LT:ay->ay->Bool}{R:ay->Int}{a₁:Array ay}{lo:Nat}
end
section
variable{prog:aw}{w:ar}{A:av}{E:ae->af->Prop}{s:af}
end
end TS
namespace TS
open PySem PySem.W PyProof.Rows
section
variable{M:Model}{A:av}{E:ae->af->Prop}{s:af}
end
section
variable{M:Model}{A:av}{E:ae->af->Prop}{s:af}
end
section
variable{prog:aw}{w:ar}{A:av}{E:ae->af->Prop}{s:af}
end
end TS
namespace L2
open PySem PySem.Spec PyProof.Rows TS
end L2
namespace L2
open PySem PySem.Spec PyProof.Rows
section
variable{X:Cx}
theorem kh{A:av}{s:af}{bs:List Bool}{prog:aw}:∀y∈(bs.map a7).toArray,SeqAt.EqAt A s y (.bool true) (y==.bool true):=by
 intro y hy;have hy':y∈bs.map ae.bool:=by simpa using hy
 obtain⟨b,_,rfl⟩:=aQ.mp hy';have:=SeqAt.EqAt.bool_bool (A:=A) (s:=s) b true;have e2:(a7 b==a7 true)=(b==true):=by cases b<;>decide
 rw[e2];exact this
noncomputable def tX(K:aq):V->List V->Hp->VK->Prop:=λx vs H Q=>∃(l:Addr) (bs:List Bool),x=.ref l/\vs=[.bl true]/\SqL K H l (bs.map V.bl)/\Q (.int ((bs.countP id:Nat):Int)) H
theorem rV:MtM X "list.count" (tX X.K):=by
 intro pins s σ H x vs v us Q I rx rv h;obtain⟨l,bs,rfl,rfl,hH,q⟩:=h;cases rx;obtain⟨u,rfl,ru⟩:=rv.one;cases ru;obtain⟨its,r,⟨o,n,e,hc,hd,hs⟩,hz⟩:=I.list hH;have ei:=gF (A:=X.A) r;subst ei;obtain⟨oc,od,oo,os⟩:=o;simp only at hc hd hs;subst hc hd hs;refine call_meets F.slot_list_count ⟨_,e,rfl⟩ F.entry_list_count (F.args_list_count_2 _ _) (SeqAt.list_countAt l _ n none os (.bool true) (λy=>y==.bool true)) ⟨e,kh (prog:=X.prog),?_⟩;refine⟨.int ((bs.countP id:Nat):Int),H,I.tok _,⟨s.toks,?_⟩,q⟩;have:(List.map a7 bs).countP (λy=>y==a7 true)=bs.countP id:=by
  rw[List.countP_map]
  congr 1
  funext b;cases b<;>rfl
 rw[show ((List.map a7 bs).toArray.toList)=List.map a7 bs from rfl,this]
noncomputable def wQ(K:aq):V->List V->Hp->VK->Prop:=λx vs H Q=>∃(l:Addr) (bs:List Bool) (j:Nat),x=.ref l/\vs=[.bl true]/\SqL K H l (bs.map V.bl)/\bs.findIdx? id=some j/\Q (.int (j:Int)) H
theorem uh:MtM X "list.index" (wQ X.K):=by
 intro pins s σ H x vs v us Q I rx rv h;obtain⟨l,bs,j,rfl,rfl,hH,hj,q⟩:=h;cases rx;obtain⟨u,rfl,ru⟩:=rv.one;cases ru;obtain⟨its,r,⟨o,n,e,hc,hd,hs⟩,hz⟩:=I.list hH;have ei:=gF (A:=X.A) r;subst ei;obtain⟨oc,od,oo,os⟩:=o;simp only at hc hd hs;subst hc hd hs;obtain⟨hjl,h1,h2⟩:=List.findIdx?_eq_some_iff_getElem.mp hj;have hz':bs.length<=sizeLine:=by simpa using hz
 refine call_meets F.slot_list_index ⟨_,e,rfl⟩ F.entry_list_index (F.args_list_index_2 _ _) (SeqAt.list_indexAt l _ n none os (.bool true) (λy=>y==.bool true) j (by simpa using hjl) (by rw[bh]at hz';lia) ?_ ?_) ⟨e,kh (prog:=X.prog),?_⟩
 ·have:bs[j]=true:=h1;simp[this]
 ·intro m hm hmj;have hm':m<bs.length:=by simpa using hm
  have:bs[m]=false:=by simpa using h2 m hmj
  simp[this]
 ·exact⟨.int (j:Int),H,I.tok _,⟨s.toks,rfl⟩,q⟩
end
section
variable{X:Cx}
end
end L2
namespace EV
open PySem PySem.Spec PySem.P PyProof.Rows L2
section
variable{X:Cx}{g:Gc}
theorem wX(hK:X.K=g.K)(hu:X.A.units+64<cLine):zh X (.builtin "sorted") (rB1 g .sorted):=dH rp λS ds d vs H Q hs rs h q=>by
 obtain⟨x,rfl,h'⟩:=gO (λ_ _=>rfl) h;cases h'
theorem iY(hK:X.K=g.K)(hc:X.calm=true)(mx:Bool):zh X (.builtin (if mx then "max" else "min")) (rB1 g (if mx then .max else .min)):=by
 have two:∀{S:Sh}{H:Hp}{x y:D}{vs:List V}{i j:Int},x=.int i->y=.int j->dA g H S [x,y] vs->vs=[.int i,.int j]:=by
  intro S H x y vs i j hx hy rs;subst hx hy;cases rs with
  |cons r1 rs=>
   cases rs with
   |cons r2 rs=>cases rs;rw[r1.int,r2.int]
 have inv:∀{b:B1}{ds:List D}{d:D},b1 b ds=.ok d->(∃x,ds=[x]/\b11 b x=.ok d)\/∃x y,ds=[x,y]/\b12 b x y=.ok d:=by
  intro b ds d h
  match ds,h with
  | [x],h=>exact .inl ⟨x,rfl,h⟩
  | [x,y],h=>exact .inr ⟨x,y,rfl,h⟩
  | [],h=>cases h
  |_::_::_::_,h=>cases h
 cases mx
 ·exact dH (sA hc) λS ds d vs H Q hs rs h q=>by
   rcases inv h with ⟨x,rfl,h'⟩|⟨x,y,rfl,h'⟩
   ·cases h'
   ·obtain⟨i,j,hx,hy,h'⟩:=ll h';cases h';exact⟨i,j,two hx hy rs,q _ _ (qf.refl _) (.int _) (by simp)⟩
 ·exact dH (tH hc) λS ds d vs H Q hs rs h q=>by
   rcases inv h with ⟨x,rfl,h'⟩|⟨x,y,rfl,h'⟩
   ·cases h'
   ·obtain⟨i,j,hx,hy,h'⟩:=ll h';cases h';exact⟨i,j,two hx hy rs,q _ _ (qf.refl _) (.int _) (by simp)⟩
theorem xu:zh X (.builtin "abs") (rB1 g .abs):=gw (λ_=>rfl) λ_ _=>rfl
theorem vM:zh X (.type "int") (rB1 g .int):=gw (λ_=>rfl) λ_ _=>rfl
theorem pE:zh X (.type "bool") (rB1 g .bool):=gw (λ_=>rfl) λ_ _=>rfl
theorem vU(hK:X.K=g.K)(hc:X.calm=true):zh X (.builtin "sum") (rB1 g .sum):=gw (λ_=>rfl) λ_ _=>rfl
theorem i5(hK:X.K=g.K)(hu:X.A.units+64<cLine):∀b,(X.calm=true\/b=.len\/b=.abs\/b=.tuple\/b=.list\/b=.int\/b=.bool)->zh X (b1V b) (rB1 g b)
 | .len,_=>m3 hK
 | .tuple,_=>rh hK
 | .list,_=>v8 hK
 | .sorted,_=>wX hK hu
 | .all,h=>l8 hK (by simpa using h) true
 | .any,h=>l8 hK (by simpa using h) false
 | .sum,h=>vU hK (by simpa using h)
 | .min,h=>iY hK (by simpa using h) false
 | .max,h=>iY hK (by simpa using h) true
 | .abs,_=>xu
 | .int,_=>vM
 | .bool,_=>pE
theorem kI{H:Hp}{ds:List D}{vs:List V}(r:za g H ds vs):ds.isEmpty=vs.isEmpty:=by cases r<;>rfl
theorem vw(hK:X.K=g.K){S:Sh}{H:Hp}{d:D}{v:V}{b:Bool}(r:zp g H S d v)(e:truth d=.ok b):gQ X.K v H b:=by
 cases d with
 |non=>cases r.rep;cases e;exact rfl
 |bl c=>cases r.rep;cases e;exact rfl
 |int i=>cases r.rep;cases e;exact rfl
 |tup xs=>
  cases e;obtain⟨a,vs,rfl,h1,r1⟩:=r.tup;exact .inr (.inl ⟨vs,by rw[hK];exact h1,by rw[kI r1]⟩)
 |lst xs=>
  cases e;obtain⟨a,vs,rfl,h1,r1⟩:=r.lst;exact .inl ⟨vs,by rw[hK];exact h1,by rw[kI r1]⟩
 |_=>cases e
theorem pe(hK:X.K=g.K):zh X (.builtin "isinstance") (λxs H Q=>∃S d v n t,xs=[v,.ty n]/\zp g H S d v/\tyD d=some t/\n∈["int","bool","str","list","tuple"]/\Q (.bl (dM t n)) H):=by
 intro pins s σ H xs us Q I r h;obtain⟨S,d,v,n,t,rfl,rd,ht,hn,q⟩:=h;obtain⟨u,cu,rfl,rx,rc⟩:=r.two;cases rc;have fin:∀tk,EP X pins σ Q (.bool (dM t n)) {s with toks:=tk}:=λtk=>⟨.bl _,H,I.tok tk,rfl,q⟩
 have kb:t∈["NoneType","bool","int","str","list","tuple","dict"]->aW X.K (.type t) (.type n)=some (dM t n):=λh=>oG h hn
 cases d with
 |non=>cases ht;cases rd.rep;exact el I rx .non (kb (by simp)) fin
 |bl c=>cases ht;cases rd.rep;exact el I rx (.bl c) (kb (by simp)) fin
 |int i=>cases ht;cases rd.rep;exact el I rx (.int i) (kb (by simp)) fin
 |str i=>cases ht;cases rd.rep;exact el I rx (.str i) (kb (by simp)) fin
 |tup xs=>
  cases ht;obtain⟨a,vs,rfl,h1,_⟩:=rd.tup;cases rx;obtain⟨its,_,⟨o,e1,e2,_⟩,_⟩:=I.tuple (by rw[hK];exact h1);exact bf PySem.W.kitx_tuple I.kIn ⟨o,e1,e2⟩ (kb (by simp)) (λz=>nomatch z) fin
 |lst xs=>
  cases ht;obtain⟨a,vs,rfl,h1,_⟩:=rd.lst;cases rx;obtain⟨its,_,pl,_⟩:=I.list (by rw[hK];exact h1);obtain⟨o,e1,e2,_⟩:=pl.isList;exact bf PySem.W.kitx_list I.kIn ⟨o,e1,e2⟩ (kb (by simp)) (λz=>nomatch z) fin
 |dic=>
  cases ht;cases rd.rep with
  |dic h1=>exact el I rx (.dK h1) (kb (by simp)) fin
 |_=>cases ht
end
theorem uc{o:O2}{a b:Int}{c:Str}:opI o a b≠.ex c:=by
 cases o<;>simp only[opI]<;>(try split)<;>intro h<;>cases h
theorem sU{o:O2}{a b:D}{c:Str}:op2 o a b≠.ex c:=by
 unfold op2;split
 ·exact uc
 all_goals ((try split)<;>intro h<;>cases h)
theorem tq{n:Bool}{a b:D}{c:Str}:isB n a b≠.ex c:=by
 unfold isB;split<;>intro h<;>cases h
theorem nF{o:C2}{a b:D}{c:Str}:qw o a b≠.ex c:=by
 unfold qw;split<;>(try split)<;>(try split)<;>intro h<;>first|cases h|exact tq h
theorem tW{a:D}{c:Str}:truth a≠.ex c:=by
 unfold truth;split<;>intro h<;>cases h
theorem ud{a b:D}{c:Str}:ixD a b≠.ex c:=by
 unfold ixD;split<;>(try split)<;>intro h<;>cases h
theorem su{a:D}{l h:Option Int}{c:Str}:slD a l h≠.ex c:=by
 unfold slD;split<;>(try split)<;>intro h<;>cases h
theorem gR{x:D}{k:List D->R D}{c:Str}(h:∀xs,k xs≠.ex c):cm x k≠.ex c:=by
 cases x with
 |lst xs=>exact h xs
 |_=>intro z;cases z
theorem iV{x y:D}{k:Int->Int->R D}{c:Str}(h:∀i j,k i j≠.ex c):iiR x y k≠.ex c:=by
 cases x with
 |int i=>
  cases y with
  |int j=>exact h i j
  |_=>intro z;cases z
 |_=>intro z;cases z
theorem dZ{α β:Type}{o:Option α}{k:α->R β}{c:Str}(h:∀a,k a≠.ex c):bP o k≠.ex c:=by
 cases o with
 |some a=>exact h a
 |none=>intro z;cases z
theorem dm{α:Type}{a:α}{c:Str}:R.ok a≠.ex c:=by intro z;cases z
theorem bZ{α:Type}{c:Str}:(R.no:R α)≠.ex c:=by intro z;cases z
theorem m9{b:B1}{d:D}{c:Str}:b11 b d≠.ex c:=by
 cases b with
 |len=>exact dZ λ_=>dm
 |tuple=>exact dZ λ_=>dm
 |list=>exact dZ λ_=>dm
 |all=>exact gR λ_=>dZ λ_=>dm
 |any=>exact gR λ_=>dZ λ_=>dm
 |sorted=>exact bZ
 |abs=>exact bZ
 |int=>exact bZ
 |bool=>exact bZ
 |sum=>exact bZ
 |min=>exact bZ
 |max=>exact bZ
theorem sD{b:B1}{ds:List D}{c:Str}:b1 b ds≠.ex c:=by
 match ds with
 | []=>exact bZ
 | [_]=>exact m9
 | [x,y]=>
  cases b with
  |min=>exact iV λ_ _=>dm
  |max=>exact iV λ_ _=>dm
  |_=>exact bZ
 |_::_::_::_=>exact bZ
structure aR(g:Gc)(c:Cc)(e:E)(S:Sh)(H:Hp)(d:D)(v:V)(H':Hp):Prop where
 same:qf H H'
 rb:zp g H' S d v
 st:esc e=true->Rep g (hid H' S) d v
 fr:fresh c e=true->Fr g H S H' d v
structure SE(g:Gc)(c:Cc)(τ:Env)(σ:L2.St)(H:Hp)(S:Sh):Prop where
 len:τ.length=σ.length
 val:∀(i:Nat) (d:D),τ[i]? = some (some d)->∃v,σ[i]? = some (some v)/\zp g H S d v/\∀x,c.N[i]? = some x->c.own.contains x=false->Rep g (hid H S) d v
 sub:Sub S H
theorem SE.up{g:Gc}{c:Cc}{τ:Env}{σ:L2.St}{H H':Hp}{S:Sh}(s:SE g c τ σ H S)(e:qf H H'):SE g c τ σ H' S:=
 ⟨s.len,λi d h=>let ⟨v,h1,h2,h3⟩:=s.val i d h;⟨v,h1,h2.mono e,λx a b=>(h3 x a b).mono (zf e)⟩,s.sub.same e⟩
noncomputable def tR{α:Type}(g:Gc)(E:XK)(H:Hp)(r:R α)(k:α->Prop):Prop:=match r with
 | .ok a=>k a
 | .ex c=>∀H' C,qf H H'->g.clA c=some C->E (.ref C) none H'
 | .no=>False
theorem tR.up{α:Type}{g:Gc}{E:XK}{H H':Hp}{r:R α}{k:α->Prop}(h:tR g E H r k)(e:qf H H'):tR g E H' r k:=by
 cases r with
 |ok a=>exact h
 |ex c=>exact λH2 C e2 hc=>h H2 C (e.trans e2) hc
 |no=>exact h
theorem tR.imp{α:Type}{g:Gc}{E:XK}{H:Hp}{r:R α}{k k':α->Prop}(h:tR g E H r k)(i:∀a,k a->k' a):tR g E H r k':=by
 cases r with
 |ok a=>exact i a h
 |ex c=>exact h
 |no=>exact h
section
variable(w:W)(g:Gc)(c:Cc)(E:XK)
noncomputable def tE(e:EV.E):TE:=λσ H Q=>∃τ S,SE g c τ σ H S/\tR g E H (evE w e τ) λd=>∀v H',aR g c e S H d v H'->Q v H'
noncomputable def tT(t:T):TT:=λσ H Q=>∃τ S,SE g c τ σ H S/\tR g E H (evT w t τ) λb=>∀H',qf H H'->Q b H'
noncomputable def tA(es:Es):TA:=λσ H Q=>∃τ S,SE g c τ σ H S/\tR g E H (zj w es τ) λds=>∀vs H',qf H H'->dA g H' S ds vs->(cF es=true->za g (hid H' S) ds vs)->Q vs H'
noncomputable def tOe(o:OE):TO:=λσ H Q=>∃τ S,SE g c τ σ H S/\tR g E H (evO w o τ) λi=>∀H',qf H H'->Q i H'
noncomputable def Goes(g:Gc)(J:L2.It)(ds:List D)(H:Hp)(S:Sh):Prop:=
 (∀i,ds.length<=i->J.stop i H)/\∀i d,ds[i]? = some d->J.go i H/\∀x H',J.yld i H x H'->qf H H'/\Rep g (hid H' S) d x
noncomputable def tIt(it:It):TI:=λσ H R=>∃τ S,SE g c τ σ H S/\tR g E H (evI w it τ) λds=>∀J H',qf H H' ->
 (∀H2 S2,qf H' H2->qf (hid H' S) (hid H2 S2)->Sub S2 H2->Goes g J ds H2 S2)->(owned it=false->∀H2 S2,qf (hid H' S) (hid H2 S2)->Sub S2 H2->Goes g J ds H2 S2)->R J H'
end
theorem PE.imp{X:Cx}{e:Expr}{t t':TE}(h:PE X e t)(i:∀σ H Q,t' σ H Q->t σ H Q):PE X e t':=λpins s σ H Q I q=>h pins s σ H Q I (i _ _ _ q)
theorem PT.imp{X:Cx}{e:Expr}{t t':TT}(h:PT X e t)(i:∀σ H Q,t' σ H Q->t σ H Q):PT X e t':=λpins s σ H Q I q=>h pins s σ H Q I (i _ _ _ q)
theorem PW.imp{X:Cx}{e:Expr}{t t':TT}(h:PW X e t)(i:∀σ H Q,t' σ H Q->t σ H Q):PW X e t':=λwh pins s σ H Q I q=>h wh pins s σ H Q I (i _ _ _ q)
theorem PA.imp{X:Cx}{e:List Expr}{t t':TA}(h:PA X e t)(i:∀σ H Q,t' σ H Q->t σ H Q):PA X e t':=λpos pins s σ H Q I q=>h pos pins s σ H Q I (i _ _ _ q)
theorem PO.imp{X:Cx}{e:Option Expr}{t t':TO}(h:PO X e t)(i:∀σ H Q,t' σ H Q->t σ H Q):PO X e t':=λpins s σ H Q I q=>h pins s σ H Q I (i _ _ _ q)
theorem PI.imp{X:Cx}{tg e:Expr}{t t':TI}(h:PI X tg e t)(i:∀σ H Q,t' σ H Q->t σ H Q):PI X tg e t':=λpins s σ H Q I q=>h pins s σ H Q I (i _ _ _ q)
theorem PS.imp{X:Cx}{e:Stmt}{t t':TS}(h:PS X e t)(i:∀D σ H,t' D σ H->t D σ H):PS X e t':=λpins s σ H Q I q=>h pins s σ H Q I (i _ _ _ q)
theorem PSs.imp{X:Cx}{e:List Stmt}{t t':TS}(h:PSs X e t)(i:∀D σ H,t' D σ H->t D σ H):PSs X e t':=λpins s σ H Q I q=>h pins s σ H Q I (i _ _ _ q)
section
variable{w:W}{g:Gc}{c:Cc}{E:XK}{τ:Env}{σ:L2.St}{H H0:Hp}{S:Sh}
theorem zg{α:Type}{e:EV.E}{f:D->R α}{P:α->Prop}{Q:VK}(se:SE g c τ σ H S)(h:tR g E H ((evE w e τ).bind f) P)(k:∀d v H',evE w e τ=.ok d->aR g c e S H d v H'->tR g E H' (f d) P->Q v H'):tE w g c E e σ H Q:=by
 refine⟨τ,S,se,?_⟩;cases q:evE w e τ with
 |ok d=>rw[q]at h;exact λv H' p=>k d v H' q p (tR.up h p.same)
 |ex x=>rw[q]at h;exact h
 |no=>rw[q]at h;exact h
theorem f_{α:Type}{t:T}{f:Bool->R α}{P:α->Prop}{Q:Bool->Hp->Prop}(se:SE g c τ σ H S)(h:tR g E H ((evT w t τ).bind f) P)(k:∀b H',evT w t τ=.ok b->qf H H'->tR g E H' (f b) P->Q b H'):tT w g c E t σ H Q:=by
 refine⟨τ,S,se,?_⟩;cases q:evT w t τ with
 |ok d=>rw[q]at h;exact λH' p=>k d H' q p (tR.up h p)
 |ex x=>rw[q]at h;exact h
 |no=>rw[q]at h;exact h
theorem dY{α:Type}{es:Es}{f:List D->R α}{P:α->Prop}{Q:List V->Hp->Prop}(se:SE g c τ σ H S)(h:tR g E H ((zj w es τ).bind f) P)
  (k:∀ds vs H',zj w es τ=.ok ds->qf H H'->dA g H' S ds vs->(cF es=true->za g (hid H' S) ds vs)->tR g E H' (f ds) P->Q vs H'):tA w g c E es σ H Q:=by
 refine⟨τ,S,se,?_⟩;cases q:zj w es τ with
 |ok d=>rw[q]at h;exact λvs H' p r r'=>k d vs H' q p r r' (tR.up h p)
 |ex x=>rw[q]at h;exact h
 |no=>rw[q]at h;exact h
theorem jT{α:Type}{o:OE}{f:Option Int->R α}{P:α->Prop}{Q:Option Int->Hp->Prop}(se:SE g c τ σ H S)(h:tR g E H ((evO w o τ).bind f) P)(k:∀b H',evO w o τ=.ok b->qf H H'->tR g E H' (f b) P->Q b H'):tOe w g c E o σ H Q:=by
 refine⟨τ,S,se,?_⟩;cases q:evO w o τ with
 |ok d=>rw[q]at h;exact λH' p=>k d H' q p (tR.up h p)
 |ex x=>rw[q]at h;exact h
 |no=>rw[q]at h;exact h
theorem aR.of{e:EV.E}{d:D}{v:V}{H':Hp}(s:qf H H')(r:Rep g (hid H' S) d v)(f:fresh c e=false):aR g c e S H d v H':=⟨s,.inl r,λ_=>r,λz=>by rw[f]at z;cases z⟩
theorem aR.new{e:EV.E}{d:D}{v:V}{H':Hp}(s:qf H H')(r:Rep g (hid H' S) d v)(f:Fr g H S H' d v):aR g c e S H d v H':=⟨s,.inl r,λ_=>r,λ_=>f⟩
theorem Fr.low{d:D}{v:V}{H1 H':Hp}(f:Fr g H1 S H' d v)(e:qf H H1):Fr g H S H' d v:=by
 obtain⟨a,vs,ds,h1,h2,h3,h4,h5⟩:=f;exact⟨a,vs,ds,h1,h2,e.free h3,h4,h5⟩
end
noncomputable def b1N:B1->Str
 | .len=>"len"
 | .tuple=>"tuple"
 | .list=>"list"
 | .sorted=>"sorted"
 | .all=>"all"
 | .any=>"any"
 | .sum=>"sum"
 | .min=>"min"
 | .max=>"max"
 | .abs=>"abs"
 | .int=>"int"
 | .bool=>"bool"
theorem vy:∀b,bg (b1N b)=some (b1V b)
 | .len | .tuple | .list | .sorted | .all | .any | .sum | .min | .max | .abs | .int | .bool=>by decide +kernel
noncomputable def spF(w:W)(g:Gc)(x:Str)(fr:Bool):Sp:=λvs H Q E=>∃S ds,Sub S H/\za g (hid H S) ds vs /\
 tR g E H (w.call x ds) λd=>∀v H',qf H H'->Rep g (hid H' S) d v->(fr=true->Fr g H S H' d v)->Q v H'
structure fR(w:W)(g:Gc)(P:aw)(wl:ar)(mg:Str->Option ae)(base:Heap)(A:av)(calm:Bool)(x:Str)(f:Addr)(fr:Bool):Prop where
 at_:mg x=some (.ref f)
 kp:bH g.K (.ref f)=true
 fn:∃k fd ps,Binds g.K fd ps []/\((calm=true/\dj P wl g.K mg base (CX1 P wl) k f fd ps (spF w g x fr)/\bC k A)\/(calm=false/\eI P wl g.K mg base (CX1 P wl) k f fd ps (spF w g x fr)/\cz k A))
noncomputable def GM(w:W)(g:Gc)(P:aw)(wl:ar)(mg:Str->Option ae)(base:Heap)(A:av)(calm:Bool)(x:Str):GK->Prop
 | .fn fr=>∃f,g.fnA x=some f/\fR w g P wl mg base A calm x f fr
 | .val=>∃u v d,mg x=some u/\RelV v u/\w.glb x=some d/\∀H,Rep g H d v
 | .bi b=>mg x=none/\x=b1N b/\∃id,b1V b=.builtin id
 | .rng=>mg x=none/\x = "range"
 | .enum=>mg x=none/\x = "enumerate"
 | .zip=>mg x=none/\x = "zip"
 | .isi=>mg x=none/\x = "isinstance"
 | .ty n b=>mg x=none/\bg x=some (.type n)/\(n∈["int","bool","str","list","tuple"]\/n = "ValueError")/\∀b',b=some b'->x=b1N b'/\b1V b'=.type n
 | .exc=>∃C,mg x=some (.ref C)/\g.clA x=some C
 | .exk=>∃C,mg x=some (.ref C)/\g.clA x=some C
 | .set=>mg x=none/\bg x=some (.type "set")
structure XO(w:W)(g:Gc)(c:Cc)(E:XK)(X:Cx):Prop where
 K:X.K=g.K
 nm:X.env.scope.names=c.nm
 N:X.N=c.N
 nd:c.N.Nodup
 calm:c.calm=true->X.calm=true
 units:X.A.units+64<cLine
 fn:∀x,(c.fnc=true\/c.oc.contains x=true)->X.fn x=true
 kind:X.env.scope.kind=.function
 pass:Passes (CX1 X.prog X.w) X E
 gok:∀x k,c.G.lookup x=some k->GM w g X.prog X.w X.mg X.base X.A X.calm x k
 fns:X.calm=true->∀x f,g.fnA x=some f->∃fr,fR w g X.prog X.w X.mg X.base X.A X.calm x f fr
 -- what isinstance says of a caught error
 sub:∀k cl b,w.sub k cl=some b->∃C cv,g.clA k=some C/\zD g.K C/\aW g.K (.ref C) cv=some b/\match cl with
  | .ty n=>n = "ValueError"/\cv=.type n
  | .ex x=>∃D,g.clA x=some D/\cv=.ref D
section
variable{w:W}{g:Gc}{c:Cc}{E:XK}{X:Cx}
theorem cU{x:Str}{i:Nat}(h:loc c x=some i):c.N[i]? = some x/\(c.nm.lookup x=some .local\/c.nm.lookup x=some .cell\/c.nm.lookup x=some .free)/\(x==("__debug__" : Str))=false/\(x==("__classdict__" : Str))=false:=by
 unfold loc at h;split at h
 ·cases h
 ·rename_i hd
  have hd':(x==("__debug__" : Str))=false/\(x==("__classdict__" : Str))=false:=by simpa using hd
  have fin:∀{j},(if c.N[j]? = some x then some j else none)=some i->c.N[i]? = some x:=λ{j} z=>by
   split at z
   ·cases z;assumption
   ·cases z
  split at h
  ·rename_i q;exact⟨fin h,.inl q,hd'⟩
  ·rename_i q;exact⟨fin h,.inr (.inl q),hd'⟩
  ·rename_i q;exact⟨fin h,.inr (.inr q),hd'⟩
  ·cases h
theorem qW{x:Str}{k:GK}(h:glob c x=some k):c.nm.lookup x=some .globalImplicit/\c.G.lookup x=some k/\(x==("__debug__" : Str))=false/\x≠"__name__":=by
 unfold glob at h;split at h
 ·cases h
 ·rename_i hd
  have hd':(x==("__debug__" : Str))=false/\(x==("__name__" : Str))=false:=by simpa using hd
  split at h
  ·rename_i q;exact⟨q,h,hd'.1,by simpa using hd'.2⟩
  ·cases h
theorem XO.gl(O:XO w g c E X){x:Str}{k:GK}(h:glob c x=some k):Gl X x:=by
 show X.env.scope.names.lookup x=_;rw[O.nm];exact(qW h).1
theorem XO.gm(O:XO w g c E X){x:Str}{k:GK}(h:glob c x=some k):GM w g X.prog X.w X.mg X.base X.A X.calm x k:=O.gok x k (qW h).2.1
theorem qT{e:Expr}{es:List Expr}{env:PySem.Env}(h:isStar e=false):aK (e::es) env=(false,eval e env)::aK es env:=by
 cases e<;>first|rfl|(simp[isStar]at h)
theorem eJ{es:List Expr}{env:PySem.Env}{pos:Pos}:(∀e∈es,isStar e=false)->(backTo pos (aK es env)).any (·.1)=false:=by
 induction es with
 |nil=>intro _;rfl
 |cons e es ih=>
  intro h;rw[qT (h e aM)];show (false||(backTo pos (aK es env)).any (·.1))=false;rw[ih λe he=>h e (aL _ he)]
  rfl
theorem dk:∀{n:Nat}{es:List Expr}{ir:Es},cEs n c es=some ir->∀e∈es,isStar e=false
 | 0,_,_,h=>by simp[cEs]at h
 |n+1,[],_,_=>by simp
 |n+1,e::es,ir,h=>by
  simp only[cEs]at h;cases hs:isStar e with
  |true=>simp[hs]at h
  |false=>
   simp only[hs,bJ,if_false,aA,az]at h;obtain⟨_,_,r,hr,_⟩:=h;intro x hx;rcases aI.mp hx with rfl|hx
   ·exact hs
   ·exact dk hr x hx
theorem wD{x:Str}{f:Addr}{fr:Bool}{e:Expr}{es:List Expr}{p pos:Pos}{t:TA}(O:XO w g c E X)(C:fR w g X.prog X.w X.mg X.base X.A X.calm x f fr)(hg:Gl X x)(hd:(x==("__debug__" : Str))=false)(ha:PA X (e::es) t)
  (hs:∀z∈e::es,isStar z=false):PE X (.Call (.Name x p) (e::es) [] pos) (gG (spF w g x fr) [] E t):=by
 obtain⟨k,fd,ps,hb,h⟩:=C.fn;have he:=qT (es:=es) (env:=X.env) (hs e aM);have hp:=eJ (env:=X.env) (pos:=pos) λz hz=>hs z (aL _ hz)
 rw[<-O.K]at hb h;rcases h with ⟨_,F,r⟩|⟨_,F,r⟩
 ·exact rX F r hg C.at_ (by rw[O.K];exact C.kp) hb .nil O.pass ha hd he hp
 ·exact rJ F r hg C.at_ (by rw[O.K];exact C.kp) hb .nil O.pass ha hd he hp
end
end EV
namespace L2
open PySem PySem.Spec PyProof.Rows
section
variable{X:Cx}
end
end L2
namespace EV
open PySem PySem.Spec PySem.P PyProof.Rows L2
section
variable{w:W}{g:Gc}{c:Cc}{E:XK}{X:Cx}{a b d f:Expr}{ia ib id' if':EV.E}{pos p2:Pos}{ta tb:T}
theorem fS{e:Expr}{v:V}{dd:D}(h:PE X e (tC v))(r:∀H,Rep g H dd v):PE X e (tE w g c E (.con dd)):=PE.imp h λσ H Q ⟨τ,S,se,k⟩=>k v H (aR.of (qf.refl _) (r _) rfl)
theorem gY{x:Str}{i:Nat}(O:XO w g c E X)(h:loc c x=some i):PE X (.Name x pos) (tE w g c E (if c.own.contains x then .own i else .var i)):=by
 obtain⟨h1,h2,h3,h4⟩:=cU h;refine PE.imp (fH (i:=i) (by rw[O.N];exact h1) (by unfold ez;rw[O.nm];exact h2) h3 h4) λσ H Q ⟨τ,S,se,k⟩=>?_
 have key:∀e,evE w e τ=bE τ i->fresh c e=false->(esc e=true->c.own.contains x=false)->tR g E H (evE w e τ) (λd=>∀v H',aR g c e S H d v H'->Q v H')->eU i σ H Q:=λe e1 e2 e3 k=>by
  rw[e1]at k;unfold bE at k;cases q:τ[i]? with
  |none=>rw[q]at k;exact k.elim
  |some o=>
   cases o with
   |none=>rw[q]at k;exact k.elim
   |some d=>
    rw[q]at k;obtain⟨v,z1,z2,z3⟩:=se.val i d q;exact⟨v,z1,k v H ⟨qf.refl _,z2,λz=>z3 x h1 (e3 z),λz=>by rw[e2]at z;cases z⟩⟩
 cases ho:c.own.contains x with
 |true=>rw[ho]at k;exact key (.own i) (by simp[qV,zd,qX,qY,zb,qU,qZ,ze,zc,ql,qB,qD,qx,qy,qm,qF,qo,qq,qE,qs,qJ,qk,qG,qM,qC,qr,qI,qH,qP,qt,qQ,qK,qN,qO,qL,qh,qp,qA,qu]) rfl (by intro z;cases z) k
 |false=>rw[ho]at k;exact key (.var i) (by simp[qV,zd,qX,qY,zb,qU,qZ,ze,zc,ql,qB,qD,qx,qy,qm,qF,qo,qq,qE,qs,qJ,qk,qG,qM,qC,qr,qI,qH,qP,qt,qQ,qK,qN,qO,qL,qh,qp,qA,qu]) rfl (λ_=>ho) k
theorem ot{x:Str}(O:XO w g c E X)(h:glob c x=some .val):PE X (.Name x pos) (tE w g c E (.glb x)):=by
 obtain⟨u,v,d,h1,h2,h3,h4⟩:=O.gm h;refine PE.imp (gX (O.gl h) h1 h2 (qW h).2.2.1) λσ H Q ⟨τ,S,se,k⟩=>?_
 simp only[qV,zd,qX,qY,zb,qU,qZ,ze,zc,ql,qB,qD,qx,qy,qm,qF,qo,qq,qE,qs,qJ,qk,qG,qM,qC,qr,qI,qH,qP,qt,qQ,qK,qN,qO,qL,qh,qp,qA,qu,h3]at k;exact k v H (aR.of (qf.refl _) (h4 _) rfl)
theorem p6{x:Str}{fr:Bool}(O:XO w g c E X)(h:glob c x=some (.fn fr)):PE X (.Name x pos) (tE w g c E (.fnv x)):=λpins s σ H Q I ⟨τ,S,se,kk⟩=>by
 simp only[qV,zd,qX,qY,zb,qU,qZ,ze,zc,ql,qB,qD,qx,qy,qm,qF,qo,qq,qE,qs,qJ,qk,qG,qM,qC,qr,qI,qH,qP,qt,qQ,qK,qN,qO,qL,qh,qp,qA,qu]at kk;exact aJ kk
theorem ko{τ:EV.Env}{e:EV.E}{d:D}(h:isL e=true)(he:evE w e τ=.ok d):lp d=true:=by
 cases e<;>first|(cases h;done)|skip
 ·simp only[qV,zd,qX,qY,zb,qU,qZ,ze,zc,ql,qB,qD,qx,qy,qm,qF,qo,qq,qE,qs,qJ,qk,qG,qM,qC,qr,qI,qH,qP,qt,qQ,qK,qN,qO,qL,qh,qp,qA,qu]at he;cases q:zj w ‹_› τ with
  |ok ds=>rw[q]at he;cases he;rfl
  |ex z=>rw[q]at he;cases he
  |no=>rw[q]at he;cases he
 ·simp only[qV,zd,qX,qY,zb,qU,qZ,ze,zc,ql,qB,qD,qx,qy,qm,qF,qo,qq,qE,qs,qJ,qk,qG,qM,qC,qr,qI,qH,qP,qt,qQ,qK,qN,qO,qL,qh,qp,qA,qu]at he;cases q:evI w ‹_› τ with
  |ok ds=>rw[q]at he;cases he;rfl
  |ex z=>rw[q]at he;cases he
  |no=>rw[q]at he;cases he
 ·simp only[qV,zd,qX,qY,zb,qU,qZ,ze,zc,ql,qB,qD,qx,qy,qm,qF,qo,qq,qE,qs,qJ,qk,qG,qM,qC,qr,qI,qH,qP,qt,qQ,qK,qN,qO,qL,qh,qp,qA,qu]at he;cases q:evI w ‹_› τ with
  |ok ds=>
   rw[q]at he;simp only[R.bind_ok]at he;split at he
   ·cases he
   ·generalize zC _ _ _ _=r at he;cases r with
    |ok o=>cases he;rfl
    |ex z=>cases he
    |no=>cases he
  |ex z=>rw[q]at he;cases he
  |no=>rw[q]at he;cases he
theorem oq(O:XO w g c E X){op:Operator}{o:O2}(ho:o2 op=some o)(ha:PE X a (tE w g c E ia))(hb:PE X b (tE w g c E ib)):PE X (.BinOp a op b pos) (tE w g c E (.op o ia ib)):=
 PE.imp (lE (oZ O.K ho) ha hb) λσ H Q ⟨τ,S,se,k⟩=>by
  simp only[qV,zd,qX,qY,zb,qU,qZ,ze,zc,ql,qB,qD,qx,qy,qm,qF,qo,qq,qE,qs,qJ,qk,qG,qM,qC,qr,qI,qH,qP,qt,qQ,qK,qN,qO,qL,qh,qp,qA,qu]at k;refine zg se k λda va H1 e1 p1 k1=>zg (se.up p1.same) k1 λdb vb H2 e2 p2 k2=>⟨S,da,db,(se.up (p1.same.trans p2.same)).sub,p1.rb.mono p2.same,p2.rb,?_⟩
  cases q:op2 o da db with
  |ok r=>
   rw[q]at k2;exact λv H' s r f=>k2 v H' ⟨(p1.same.trans p2.same).trans s,.inl r,λ_=>r,λz=>by
    simp only[fresh,bL,aB,beq_iff_eq]at z;refine(f ?_).low (p1.same.trans p2.same);rcases z with z|⟨rfl,z⟩
    ·exact ko z.2 e1
    ·have:=ko z e2;cases db<;>first|(cases this;done)|skip
     cases da<;>first|rfl|(cases q;done)⟩
  |ex z=>exact sU q
  |no=>rw[q]at k2;exact k2
theorem sG(ha:PE X a (tE w g c E ia)):PE X (.UnaryOp .USub a pos) (tE w g c E (.neg ia)):=
 PE.imp (uB sy ha) λσ H Q ⟨τ,S,se,k⟩=>by
  simp only[qV,zd,qX,qY,zb,qU,qZ,ze,zc,ql,qB,qD,qx,qy,qm,qF,qo,qq,qE,qs,qJ,qk,qG,qM,qC,qr,qI,qH,qP,qt,qQ,qK,qN,qO,qL,qh,qp,qA,qu]at k;refine zg se k λda va H1 e1 p1 k1=>?_
  cases da with
  |int i=>exact⟨i,p1.rb.int,k1 _ _ (aR.of p1.same (.int _) rfl)⟩
  |_=>exact k1.elim
theorem jz(O:XO w g c E X)(ix:Bool){x:Str}{i:Nat}{ap cp p q:Pos}{kk:Nat}(h:loc c x=some i)(hl:(ap.endLine==cp.line)=true) :
  PE X (.Call (.Attribute (.Name x p) (if ix then "index" else "count") ap) [.Constant (.bool true) kk q] [] cp) (tE w g c E (.mth ix (if c.own.contains x then .own i else .var i))):=by
 have hst:=qT (e:=.Constant (.bool true) kk q) (es:=[]) (env:=X.env) rfl;have pa:PA X [.Constant (.bool true) kk q] _:=zw jN b5 hst;have hK:=O.K;cases ix with
 |false=>
  refine PE.imp (fI (X:=X) (apos:=ap) (cpos:=cp) PySem.F.plainAttrs_list PySem.F.slot_list_count (by rfl) rV (gY O h) pa rfl (by rw[hst];rfl) hl hst rfl) λσ H Q ⟨τ,S,se,k⟩=>?_
  simp only[qV,zd,qX,qY,zb,qU,qZ,ze,zc,ql,qB,qD,qx,qy,qm,qF,qo,qq,qE,qs,qJ,qk,qG,qM,qC,qr,qI,qH,qP,qt,qQ,qK,qN,qO,qL,qh,qp,qA,qu]at k;refine zg se k λda va H1 e1 p1 k1=>?_
  cases da with
  |lst xs=>
   obtain⟨a,vs,rfl,h1,h2⟩:=p1.rb.lst;simp only[gb,cm]at k1;cases e:bools? xs with
   |none=>rw[e]at k1;exact k1.elim
   |some bs=>
    rw[e]at k1;have:=h2.bools e;subst this;exact⟨.inl ⟨rfl,_,by rw[hK];exact h1⟩,a,bs,rfl,rfl,by rw[hK];exact h1,k1 _ _ (aR.of p1.same (.int _) rfl)⟩
  |_=>exact k1.elim
 |true=>
  refine PE.imp (fI (X:=X) (apos:=ap) (cpos:=cp) PySem.F.plainAttrs_list PySem.F.slot_list_index (by rfl) uh (gY O h) pa rfl (by rw[hst];rfl) hl hst rfl) λσ H Q ⟨τ,S,se,k⟩=>?_
  simp only[qV,zd,qX,qY,zb,qU,qZ,ze,zc,ql,qB,qD,qx,qy,qm,qF,qo,qq,qE,qs,qJ,qk,qG,qM,qC,qr,qI,qH,qP,qt,qQ,qK,qN,qO,qL,qh,qp,qA,qu]at k;refine zg se k λda va H1 e1 p1 k1=>?_
  cases da with
  |lst xs=>
   obtain⟨a,vs,rfl,h1,h2⟩:=p1.rb.lst;simp only[gb,cm]at k1;cases e:bools? xs with
   |none=>rw[e]at k1;exact k1.elim
   |some bs=>
    rw[e]at k1;have:=h2.bools e;subst this;simp only[bP]at k1;rw[if_pos trivial]at k1;cases ej:bs.findIdx? id with
    |none=>rw[ej]at k1;exact k1.elim
    |some j=>
     rw[ej]at k1;exact⟨.inl ⟨rfl,_,by rw[hK];exact h1⟩,a,bs,j,rfl,rfl,by rw[hK];exact h1,ej,k1 _ _ (aR.of p1.same (.int _) rfl)⟩
  |_=>exact k1.elim
theorem wC(O:XO w g c E X){o:Expr}{m:Str}{ap cp:Pos}{as:List Expr}{e:EV.E}(h:cMt c o m ap as cp=some e):PE X (.Call (.Attribute o m ap) as [] cp) (tE w g c E e):=by
 unfold cMt at h;split at h
 ·split at h
  ·split at h
   ·split at h
    ·split at h
     ·rename_i hx
      split at h
      ·rename_i hb
       simp only[aB]at hb;obtain⟨rfl,hl⟩:=hb;split at h
       ·rename_i hm
        subst hm;cases h;exact jz O false hx hl
       ·split at h
        ·rename_i hm
         subst hm;cases h;exact jz O true hx hl
        ·cases h
      ·cases h
     ·cases h
    ·cases h
   ·cases h
  ·cases h
 ·cases h
theorem tf(O:XO w g c E X){o:Expr}{ap cp:Pos}(hb:baseOk o=true)(ho:PE X o (tE w g c E ia))(ha:PE X a (tE w g c E ib))(hs:isStar a=false)(hl:(ap.endLine==cp.line)=true) :
  PE X (.Call (.Attribute o "count" ap) [a] [] cp) (tE w g c E (.cnt ia ib)):=λpins s σ H Q I ⟨τ,S,se,kk⟩=>by
 simp only[qV,zd,qX,qY,zb,qU,qZ,ze,zc,ql,qB,qD,qx,qy,qm,qF,qo,qq,qE,qs,qJ,qk,qG,qM,qC,qr,qI,qH,qP,qt,qQ,qK,qN,qO,qL,qh,qp,qA,qu]at kk;exact aJ kk
theorem uK(ha:PE X a (tE w g c E ia)):PE X (.UnaryOp .Invert a pos) (tE w g c E (.inv ia)):=λpins s σ H Q I ⟨τ,S,se,kk⟩=>by
 simp only[qV,zd,qX,qY,zb,qU,qZ,ze,zc,ql,qB,qD,qx,qy,qm,qF,qo,qq,qE,qs,qJ,qk,qG,qM,qC,qr,qI,qH,qP,qt,qQ,qK,qN,qO,qL,qh,qp,qA,qu]at kk;exact aJ kk
theorem nW(ha:PE X a (tE w g c E ia)):PE X (.UnaryOp .Not a pos) (tE w g c E (.not ia)):=
 PE.imp (vj ha) λσ H Q ⟨τ,S,se,k⟩=>by
  simp only[qV,zd,qX,qY,zb,qU,qZ,ze,zc,ql,qB,qD,qx,qy,qm,qF,qo,qq,qE,qs,qJ,qk,qG,qM,qC,qr,qI,qH,qP,qt,qQ,qK,qN,qO,qL,qh,qp,qA,qu]at k;refine zg se k λda va H1 e1 p1 k1=>?_
  cases da with
  |bl i=>exact⟨i,p1.rb.bl,k1 _ _ (aR.of p1.same (.bl _) rfl)⟩
  |_=>exact k1.elim
theorem aR.pass{e e':EV.E}{S:Sh}{H H1 H':Hp}{dd:D}{v:V}(s:qf H H1)(p:aR g c e S H1 dd v H')(h:esc e=true)(f:fresh c e'=false):aR g c e' S H dd v H':=aR.of (s.trans p.same) (p.st h) f
theorem uO{rest:List Expr}{ir:EV.E}(ha:PE X a (tE w g c E ia))(hb:PE X (.BoolOp .And (b::rest) pos) (tE w g c E ir))(he:esc ir=true):PE X (.BoolOp .And (a::b::rest) pos) (tE w g c E (.and ia ir)):=
 PE.imp (rY ha hb) λσ H Q ⟨τ,S,se,k⟩=>by
  simp only[qV,zd,qX,qY,zb,qU,qZ,ze,zc,ql,qB,qD,qx,qy,qm,qF,qo,qq,qE,qs,qJ,qk,qG,qM,qC,qr,qI,qH,qP,qt,qQ,qK,qN,qO,qL,qh,qp,qA,qu]at k;refine zg se k λda va H1 e1 p1 k1=>?_
  cases da with
  |bl i=>
   refine⟨i,p1.rb.bl,?_⟩;cases i with
   |true=>
    refine⟨τ,S,se.up p1.same,tR.imp k1 λd hk v H' p=>hk v H' (p.pass p1.same he rfl)⟩
   |false=>exact k1 _ _ (aR.of p1.same (.bl _) rfl)
  |_=>exact k1.elim
theorem oD{rest:List Expr}{ir:EV.E}(ha:PE X a (tE w g c E ia))(hb:PE X (.BoolOp .Or (b::rest) pos) (tE w g c E ir))(he:esc ir=true):PE X (.BoolOp .Or (a::b::rest) pos) (tE w g c E (.or ia ir)):=
 PE.imp (mv ha hb) λσ H Q ⟨τ,S,se,k⟩=>by
  simp only[qV,zd,qX,qY,zb,qU,qZ,ze,zc,ql,qB,qD,qx,qy,qm,qF,qo,qq,qE,qs,qJ,qk,qG,qM,qC,qr,qI,qH,qP,qt,qQ,qK,qN,qO,qL,qh,qp,qA,qu]at k;refine zg se k λda va H1 e1 p1 k1=>?_
  cases da with
  |bl i=>
   refine⟨i,p1.rb.bl,?_⟩;cases i with
   |false=>
    refine⟨τ,S,se.up p1.same,tR.imp k1 λd hk v H' p=>hk v H' (p.pass p1.same he rfl)⟩
   |true=>exact k1 _ _ (aR.of p1.same (.bl _) rfl)
  |_=>exact k1.elim
theorem eD{op:CmpOp}{b:Expr}(h:zl b=true):behindInMarks op b=false:=by cases b<;>first|rfl|(simp[zl]at h)
theorem cj{o:C2}{S:Sh}{H:Hp}{da db:D}{va vb:V}{r:R Bool}{P:Bool->Prop}{Q:VK}(ra:zp g H S da va)(rb:zp g H S db vb)(q:tR g E H (qw o da db) P)(k:∀z,qw o da db=.ok z->P z->Q (.bl z) H):rCm g o va vb H Q:=by
 refine⟨S,da,db,ra,rb,?_⟩;cases e:qw o da db with
 |ok z=>rw[e]at q;exact k z e q
 |ex z=>exact nF e
 |no=>rw[e]at q;exact q
theorem tR.bnd{α β:Type}{H:Hp}{r:R α}{f:α->R β}{P:β->Prop}(h:tR g E H (r.bind f) P):tR g E H r λa=>tR g E H (f a) P:=by
 cases r with
 |ok a=>exact h
 |ex z=>exact h
 |no=>exact h
theorem sd(O:XO w g c E X){op:CmpOp}(ha:PE X a (tE w g c E ia))(hb:PE X b (tE w g c E ib))(hs:zl b=true):PE X (.Compare a [op] [b] pos) (tE w g c E (.cmp (c2 op) ia ib)):=
 PE.imp (vQ (ck O.K O.units op) ha hb (eD hs)) λσ H Q ⟨τ,S,se,k⟩=>by
  simp only[qV,zd,qX,qY,zb,qU,qZ,ze,zc,ql,qB,qD,qx,qy,qm,qF,qo,qq,qE,qs,qJ,qk,qG,qM,qC,qr,qI,qH,qP,qt,qQ,qK,qN,qO,qL,qh,qp,qA,qu]at k;refine zg se k λda va H1 e1 p1 k1=>zg (se.up p1.same) k1 λdb vb H2 e2 p2 k2=>?_
  exact cj (r:=.no) (p1.rb.mono p2.same) p2.rb (tR.bnd k2) λz _ q=>q _ _ (aR.of (p1.same.trans p2.same) (.bl _) rfl)
theorem sf(O:XO w g c E X){op:CmpOp}(ha:PE X a (tE w g c E ia))(hb:PE X b (tE w g c E ib))(hs:zl b=true):PT X (.Compare a [op] [b] pos) (tT w g c E (.cmp (c2 op) ia ib)):=
 PT.imp (sj (ck O.K O.units op) ha hb (eD hs)) λσ H Q ⟨τ,S,se,k⟩=>by
  simp only[di,dh,du,dt,dr,cZ,c_]at k;refine zg se k λda va H1 e1 p1 k1=>zg (se.up p1.same) k1 λdb vb H2 e2 p2 k2=>?_
  exact cj (r:=.no) (p1.rb.mono p2.same) p2.rb k2 λz _ q=>⟨z,rfl,q _ (p1.same.trans p2.same)⟩
theorem sM(O:XO w g c E X){op op':CmpOp}(ha:PE X a (tE w g c E ia))(hb:PE X b (tE w g c E ib))(hd:PE X d (tE w g c E id'))(hs':zl d=true):PE X (.Compare a [op,op'] [b,d] pos) (tE w g c E (.cmp2 (c2 op) (c2 op') ia ib id')):=
 PE.imp (sJ (ck O.K O.units op) (ck O.K O.units op') ha hb hd (eD hs')) λσ H Q ⟨τ,S,se,k⟩=>by
  simp only[qV,zd,qX,qY,zb,qU,qZ,ze,zc,ql,qB,qD,qx,qy,qm,qF,qo,qq,qE,qs,qJ,qk,qG,qM,qC,qr,qI,qH,qP,qt,qQ,qK,qN,qO,qL,qh,qp,qA,qu]at k;refine zg se k λda va H1 e1 p1 k1=>zg (se.up p1.same) k1 λdb vb H2 e2 p2 k2=>?_
  have s2:=p1.same.trans p2.same;refine cj (r:=.no) (p1.rb.mono p2.same) p2.rb (tR.bnd k2) λz _ q=>⟨z,rfl,?_⟩
  cases z with
  |true=>
   exact zg (se.up s2) q λdd vd H3 e3 p3 k3=>cj (r:=.no) (p2.rb.mono p3.same) p3.rb (tR.bnd k3) λz _ q=>q _ _ (aR.of (s2.trans p3.same) (.bl _) rfl)
  |false=>exact q _ _ (aR.of s2 (.bl _) rfl)
theorem xb(O:XO w g c E X){op op':CmpOp}(ha:PE X a (tE w g c E ia))(hb:PE X b (tE w g c E ib))(hd:PE X d (tE w g c E id'))(hs':zl d=true):PT X (.Compare a [op,op'] [b,d] pos) (tT w g c E (.cmp2 (c2 op) (c2 op') ia ib id')):=
 PT.imp (oK (ck O.K O.units op) (ck O.K O.units op') ha hb hd (eD hs')) λσ H Q ⟨τ,S,se,k⟩=>by
  simp only[di,dh,du,dt,dr,cZ,c_]at k;refine zg se k λda va H1 e1 p1 k1=>zg (se.up p1.same) k1 λdb vb H2 e2 p2 k2=>?_
  have s2:=p1.same.trans p2.same;refine cj (r:=.no) (p1.rb.mono p2.same) p2.rb (tR.bnd k2) λz _ q=>⟨z,rfl,?_⟩
  cases z with
  |true=>
   exact zg (se.up s2) q λdd vd H3 e3 p3 k3=>cj (r:=.no) (p2.rb.mono p3.same) p3.rb k3 λz _ q=>⟨z,rfl,q _ (s2.trans p3.same)⟩
  |false=>exact⟨false,rfl,q _ s2⟩
theorem vI(O:XO w g c E X){op op' op'':CmpOp}(ha:PE X a (tE w g c E ia))(hb:PE X b (tE w g c E ib))(hd:PE X d (tE w g c E id'))(hf:PE X f (tE w g c E if'))(hs':zl f=true):PE X (.Compare a [op,op',op''] [b,d,f] pos) (tE w g c E (.cmp3 (c2 op) (c2 op') (c2 op'') ia ib id' if')):=
 PE.imp (nI (ck O.K O.units op) (ck O.K O.units op') (ck O.K O.units op'') ha hb hd hf (eD hs')) λσ H Q ⟨τ,S,se,k⟩=>by
  simp only[qV,zd,qX,qY,zb,qU,qZ,ze,zc,ql,qB,qD,qx,qy,qm,qF,qo,qq,qE,qs,qJ,qk,qG,qM,qC,qr,qI,qH,qP,qt,qQ,qK,qN,qO,qL,qh,qp,qA,qu]at k;refine zg se k λda va H1 e1 p1 k1=>zg (se.up p1.same) k1 λdb vb H2 e2 p2 k2=>?_
  have s2:=p1.same.trans p2.same;refine cj (r:=.no) (p1.rb.mono p2.same) p2.rb (tR.bnd k2) λz _ q=>⟨z,rfl,?_⟩
  cases z with
  |true=>
   refine zg (se.up s2) q λdd vd H3 e3 p3 k3=>cj (r:=.no) (p2.rb.mono p3.same) p3.rb (tR.bnd k3) λz _ q=>⟨z,rfl,?_⟩
   have s3:=s2.trans p3.same;cases z with
   |true=>exact zg (se.up s3) q λdf vf H4 e4 p4 k4=>cj (r:=.no) (p3.rb.mono p4.same) p4.rb (tR.bnd k4) λz _ q=>q _ _ (aR.of (s3.trans p4.same) (.bl _) rfl)
   |false=>exact q _ _ (aR.of s3 (.bl _) rfl)
  |false=>exact q _ _ (aR.of s2 (.bl _) rfl)
theorem vx{a b c d:Expr}{ta tb tc td:TE}{pos:Pos}{op op' op'':CmpOp}{r r' r'':R2}(ho:OpR X (aO op) r)(ho':OpR X (aO op') r')(ho'':OpR X (aO op'') r'')(ha:PE X a ta)(hb:PE X b tb)(hc:PE X c tc)(hd:PE X d td)
  (hm:lastMarks [op,op',op''] [b,c,d]=false):PT X (.Compare a [op,op',op''] [b,c,d] pos) (iy (lV r r' r'' ta tb tc td)):=by
 intro pins s σ H Q I h;refine isTrue_chain (thn (ha pins s σ H _ I h) λv s1 ⟨x,H1,I1,r1,q1⟩=>test_link (thn (hb pins s1 σ H1 _ I1 q1) λu s2 ⟨y,H2,I2,r2,q2⟩=>
  thn (ho pins s2 σ H2 x y v u _ I2 r1 r2 q2) λd s3 ⟨z,H3,I3,r3,k,e,q3⟩=>?_)) hm
 subst e;cases r3;refine ba ?_;cases k with
 |false=>
  obtain⟨k',e',q'⟩:=q3;cases e';exact ite_ff ⟨H3,I3,q'⟩
 |true=>
  refine ite_tt (test_link (thn (hc pins s3 σ H3 _ I3 q3) λw' s4 ⟨z',H4,I4,r4,q4⟩=>thn (ho' pins s4 σ H4 y z' u w' _ I4 r2 r4 q4) λd' s5 ⟨z2,H5,I5,r5,k2,e2,q5⟩=>?_));subst e2;cases r5;refine ba ?_;cases k2 with
  |false=>
   obtain⟨k',e',q'⟩:=q5;cases e';exact ite_ff ⟨H5,I5,q'⟩
  |true=>
   refine ite_tt (test_last (thn (hd pins s5 σ H5 _ I5 q5) λw'' s6 ⟨z3,H6,I6,r6,q6⟩=>thn (ho'' pins s6 σ H6 z' z3 w' w'' _ I6 r4 r6 q6) λd'' s7 ⟨z4,H7,I7,r7,k4,e4,q7⟩=>?_));subst e4;cases r7;exact ba ⟨H7,I7,q7⟩
theorem R.bind_assoc{α β γ:Type}(r:R α)(f:α->R β)(h:β->R γ):(r.bind f).bind h=r.bind λa=>(f a).bind h:=by cases r<;>rfl
theorem pC(O:XO w g c E X){op op' op'':CmpOp}(ha:PE X a (tE w g c E ia))(hb:PE X b (tE w g c E ib))(hd:PE X d (tE w g c E id'))(hf:PE X f (tE w g c E if'))(hs':zl f=true):PT X (.Compare a [op,op',op''] [b,d,f] pos) (tT w g c E (.val (.cmp3 (c2 op) (c2 op') (c2 op'') ia ib id' if'))):=
 PT.imp (vx (ck O.K O.units op) (ck O.K O.units op') (ck O.K O.units op'') ha hb hd hf (eD hs')) λσ H Q ⟨τ,S,se,k⟩=>by
  simp only[di,dh,du,dt,dr,cZ,c_,qV,zd,qX,qY,zb,qU,qZ,ze,zc,ql,qB,qD,qx,qy,qm,qF,qo,qq,qE,qs,qJ,qk,qG,qM,qC,qr,qI,qH,qP,qt,qQ,qK,qN,qO,qL,qh,qp,qA,qu,R.bind_assoc]at k;refine zg se k λda va H1 e1 p1 k1=>zg (se.up p1.same) k1 λdb vb H2 e2 p2 k2=>?_
  have s2:=p1.same.trans p2.same;refine cj (r:=.no) (p1.rb.mono p2.same) p2.rb (tR.bnd k2) λz _ q=>⟨z,rfl,?_⟩
  cases z with
  |true=>
   simp only[if_true,R.bind_assoc]at q;refine zg (se.up s2) q λdd vd H3 e3 p3 k3=>cj (r:=.no) (p2.rb.mono p3.same) p3.rb (tR.bnd k3) λz _ q=>⟨z,rfl,?_⟩
   have s3:=s2.trans p3.same;cases z with
   |true=>
    simp only[if_true,R.bind_assoc]at q;exact zg (se.up s3) q λdf vf H4 e4 p4 k4=>cj (r:=.no) (p3.rb.mono p4.same) p4.rb (tR.bnd k4) λz _ q=>⟨z,rfl,q _ (s3.trans p4.same)⟩
   |false=>exact⟨false,rfl,q _ s3⟩
  |false=>exact⟨false,rfl,q _ s2⟩
theorem sE(ht:PT X d (tT w g c E ta))(ha:PE X a (tE w g c E ia))(hb:PE X b (tE w g c E ib))(h1:esc ia=true)(h2:esc ib=true):PE X (.IfExp d a b pos) (tE w g c E (.ite ta ia ib)):=
 PE.imp (wF ht ha hb) λσ H Q ⟨τ,S,se,k⟩=>by
  simp only[qV,zd,qX,qY,zb,qU,qZ,ze,zc,ql,qB,qD,qx,qy,qm,qF,qo,qq,qE,qs,qJ,qk,qG,qM,qC,qr,qI,qH,qP,qt,qQ,qK,qN,qO,qL,qh,qp,qA,qu]at k;refine f_ se k λz H1 e1 s1 k1=>?_
  cases z with
  |true=>exact⟨τ,S,se.up s1,tR.imp k1 λdd hk v H' p=>hk v H' (p.pass s1 h1 rfl)⟩
  |false=>exact⟨τ,S,se.up s1,tR.imp k1 λdd hk v H' p=>hk v H' (p.pass s1 h2 rfl)⟩
theorem wG:PA X [] (tA w g c E .nil):=PA.imp b5 λσ H Q ⟨τ,S,se,k⟩=>k [] H (qf.refl _) .nil λ_=>.nil
theorem nE{es:List Expr}{ies:Es}(ha:PE X a (tE w g c E ia))(hr:PA X es (tA w g c E ies))(hs:isStar a=false):PA X (a::es) (tA w g c E (.cons ia ies)):=
 PA.imp (zw ha hr (qT hs)) λσ H Q ⟨τ,S,se,k⟩=>by
  simp only[zj]at k;refine zg se k λda va H1 e1 p1 k1=>dY (se.up p1.same) k1 λds vs H2 e2 s2 r2 r2' k2=>k2 _ _ (p1.same.trans s2) (.cons (p1.rb.mono s2) r2) λz=>?_
  simp only[cF,aB]at z;exact .cons ((p1.st z.1).mono (zf s2)) (r2' z.2)
theorem fX:∀{es:Es}{τ:Env}{ds:List D}{l:List Expr}{n:Nat},cEs n c l=some es->zj w es τ=.ok ds->ds.length=l.length
 |_,_,_,l,0,h,_=>by simp[cEs]at h
 |es,τ,ds,[],n+1,h,e=>by
  simp only[cEs,bB]at h;subst h;simp only[zj,R.ok.injEq]at e;subst e;rfl
 |es,τ,ds,x::l,n+1,h,e=>by
  simp only[cEs]at h;cases hs:isStar x with
  |true=>simp[hs]at h
  |false=>
   simp only[hs,bJ,if_false,aA,az]at h;obtain⟨i1,_,r,hr,h⟩:=h;cases h;simp only[zj]at e;cases q:evE w i1 τ with
   |ok z=>
    rw[q]at e;simp only[R.bind_ok]at e;cases q2:zj w r τ with
    |ok zs=>
     rw[q2]at e;cases e;simp[fX hr q2]
    |ex z=>rw[q2]at e;cases e
    |no=>rw[q2]at e;cases e
   |ex z=>rw[q]at e;cases e
   |no=>rw[q]at e;cases e
theorem gM{n:Nat}(h:n<=100000):n<=sizeLine:=aS h (by rw[bh];decide)
theorem xh{es:List Expr}{ies:Es}{k:Nat}(ha:PA X es (tA w g c E ies))(he:cF ies=true)(hl:∀τ ds,zj w ies τ=.ok ds->ds.length<=100000):PE X (.Tuple es k pos) (tE w g c E (.tup ies)):=
 PE.imp (pI ha) λσ H Q ⟨τ,S,se,k⟩=>by
  simp only[qV,zd,qX,qY,zb,qU,qZ,ze,zc,ql,qB,qD,qx,qy,qm,qF,qo,qq,qE,qs,qJ,qk,qG,qM,qC,qr,qI,qH,qP,qt,qQ,qK,qN,qO,qL,qh,qp,qA,qu]at k;refine dY se k λds vs H1 e1 s1 r1 r1' k1=>?_
  have r:=r1' he;exact⟨by rw[<-r.length];exact gM (hl _ _ e1),λp hp=>k1 _ _ (aR.of (s1.trans (zi hp)) (dN (se.sub.same s1) hp r) rfl)⟩
theorem wx{es:List Expr}{ies:Es}(ha:PA X es (tA w g c E ies))(he:cF ies=true)(hl:∀τ ds,zj w ies τ=.ok ds->ds.length<=100000):PE X (.List es pos) (tE w g c E (.lst ies)):=
 PE.imp (vV ha) λσ H Q ⟨τ,S,se,k⟩=>by
  simp only[qV,zd,qX,qY,zb,qU,qZ,ze,zc,ql,qB,qD,qx,qy,qm,qF,qo,qq,qE,qs,qJ,qk,qG,qM,qC,qr,qI,qH,qP,qt,qQ,qK,qN,qO,qL,qh,qp,qA,qu]at k;refine dY se k λds vs H1 e1 s1 r1 r1' k1=>?_
  have r:=r1' he;exact⟨by rw[<-r.length];exact gM (hl _ _ e1),λp hp=>k1 _ _ (aR.new (s1.trans (zi hp)) (eY (se.sub.same s1) hp r) (fO s1 hp r))⟩
theorem uF{b:Expr}(h:isSlice b=false):jU b:=λo i=>by cases b<;>first|rfl|(simp[isSlice]at h)
theorem uC(O:XO w g c E X)(ha:PE X a (tE w g c E ia))(hb:PE X b (tE w g c E ib))(hs:isSlice b=false):PE X (.Subscript a b pos) (tE w g c E (.ix ia ib)):=
 PE.imp (ue (ni O.K) ha hb (uF hs)) λσ H Q ⟨τ,S,se,k⟩=>by
  simp only[qV,zd,qX,qY,zb,qU,qZ,ze,zc,ql,qB,qD,qx,qy,qm,qF,qo,qq,qE,qs,qJ,qk,qG,qM,qC,qr,qI,qH,qP,qt,qQ,qK,qN,qO,qL,qh,qp,qA,qu]at k;refine zg se k λda va H1 e1 p1 k1=>zg (se.up p1.same) k1 λdb vb H2 e2 p2 k2=>⟨S,da,db,p1.rb.mono p2.same,p2.rb,?_⟩
  cases q:ixD da db with
  |ok r=>rw[q]at k2;exact λv r=>k2 v H2 (aR.of (p1.same.trans p2.same) r rfl)
  |ex z=>exact ud q
  |no=>rw[q]at k2;exact k2
theorem pd(O:XO w g c E X){lo hi:Option Expr}{il ih:OE}(ha:PE X a (tE w g c E ia))(hl:PO X lo (tOe w g c E il))(hh:PO X hi (tOe w g c E ih)):PE X (.Subscript a (.Slice lo hi none p2) pos) (tE w g c E (.sl ia il ih)):=
 PE.imp (mJ (tN O.K) ha hl hh) λσ H Q ⟨τ,S,se,k⟩=>by
  simp only[qV,zd,qX,qY,zb,qU,qZ,ze,zc,ql,qB,qD,qx,qy,qm,qF,qo,qq,qE,qs,qJ,qk,qG,qM,qC,qr,qI,qH,qP,qt,qQ,qK,qN,qO,qL,qh,qp,qA,qu]at k;refine zg se k λda va H1 e1 p1 k1=>jT (se.up p1.same) k1 λl H2 e2 s2 k2=>jT (se.up (p1.same.trans s2)) k2 λh H3 e3 s3 k3=>?_
  have s:=(p1.same.trans s2).trans s3;refine⟨S,da,se.sub.same s,p1.rb.mono (s2.trans s3),?_⟩;cases q:slD da l h with
  |ok r=>rw[q]at k3;exact λv H' s' r=>k3 v H' (aR.of (s.trans s') r rfl)
  |ex z=>exact su q
  |no=>rw[q]at k3;exact k3
theorem mi:PO X none (tOe w g c E .none):=PO.imp pR λσ H Q ⟨τ,S,se,k⟩=>k H (qf.refl _)
theorem sx(ha:PE X a (tE w g c E ia)):PO X (some a) (tOe w g c E (.some ia)):=PO.imp (w8 ha) λσ H Q ⟨τ,S,se,k⟩=>by
 simp only[evO]at k;refine zg se k λda va H1 e1 p1 k1=>?_
 cases da with
 |int i=>exact⟨i,p1.rb.int,k1 _ p1.same⟩
 |_=>exact k1.elim
theorem mB(O:XO w g c E X){x:Str}{fr:Bool}{e:Expr}{es:List Expr}{ies:Es}(h:glob c x=some (.fn fr))(ha:PA X (e::es) (tA w g c E ies))(he:cF ies=true)(hs:∀z∈e::es,isStar z=false):PE X (.Call (.Name x p2) (e::es) [] pos) (tE w g c E (.call x ies)):=by
 obtain⟨f,h1,h2⟩:=O.gm h;refine PE.imp (wD O h2 (O.gl h) (qW h).2.2.1 ha hs) λσ H Q ⟨τ,S,se,k⟩=>?_
 simp only[qV,zd,qX,qY,zb,qU,qZ,ze,zc,ql,qB,qD,qx,qy,qm,qF,qo,qq,qE,qs,qJ,qk,qG,qM,qC,qr,qI,qH,qP,qt,qQ,qK,qN,qO,qL,qh,qp,qA,qu]at k;refine dY se k λds vs H1 e1 s1 r1 r1' k1=>⟨S,ds,se.sub.same s1,by rw[List.append_nil];exact r1' he,tR.imp k1 λdd hk v H' s' r f=>hk v H' ⟨s1.trans s',.inl r,λ_=>r,λz=>?_⟩⟩
 simp only[fresh,(qW h).2.1,beq_iff_eq,bB,GK.fn.injEq]at z;exact(f z).low s1
theorem sF(O:XO w g c E X){x:Str}{fr:Bool}{e:Expr}{es:List Expr}{ies:Es}(h:glob c x=some (.fn fr))(ha:PA X (e::es) (tA w g c E ies))(hs:∀z∈e::es,isStar z=false):PE X (.Call (.Name x p2) (e::es) [] pos) (tE w g c E (.callo x ies)):=λpins s σ H Q I ⟨τ,S,se,kk⟩=>by
 simp only[qV,zd,qX,qY,zb,qU,qZ,ze,zc,ql,qB,qD,qx,qy,qm,qF,qo,qq,qE,qs,qJ,qk,qG,qM,qC,qr,qI,qH,qP,qt,qQ,qK,qN,qO,qL,qh,qp,qA,qu]at kk;exact aJ kk
theorem szl:SZ<=sizeLine:=by rw[bh];decide
theorem gU{i:Int}(h:qi i=true):i.natAbs.log2<1920:=by
 simp only[qi,aB,decide_eq_true_eq]at h;by_cases h0:i.natAbs=0
 ·rw[h0];decide
 ·exact Nat.lt_trans ((Nat.log2_lt h0).mpr (show i.natAbs<2^20 by lia)) (by decide)
theorem nO{a b:Expr}{ia ib:EV.E}{t0 t1 t2:Str}{k0 k1 k2}{p0 p1 p2 p3 p4 pos:Pos}(h0:(Str.empty++t0).length<=1000)(ha:PE X a (tE w g c E ia))(hb:PE X b (tE w g c E ib)) :
  PE X (.JoinedStr [.Constant (.str t0) k0 p0,.FormattedValue a (-1) none p1,.Constant (.str t1) k1 p2,.FormattedValue b (-1) none p3,.Constant (.str t2) k2 p4] pos) (tE w g c E (.fst2 t0 ia t1 ib t2)):=λpins s σ H Q I ⟨τ,S,se,kk⟩=>by
 simp only[qV,zd,qX,qY,zb,qU,qZ,ze,zc,ql,qB,qD,qx,qy,qm,qF,qo,qq,qE,qs,qJ,qk,qG,qM,qC,qr,qI,qH,qP,qt,qQ,qK,qN,qO,qL,qh,qp,qA,qu]at kk;exact aJ kk
theorem p5:PE X (.Dict [] [] pos) (tE w g c E .dic):=PE.imp sQ λσ H Q ⟨τ,S,se,k⟩ p hp=>by
 simp only[qV,zd,qX,qY,zb,qU,qZ,ze,zc,ql,qB,qD,qx,qy,qm,qF,qo,qq,qE,qs,qJ,qk,qG,qM,qC,qr,qI,qH,qP,qt,qQ,qK,qN,qO,qL,qh,qp,qA,qu]at k;exact k _ _ (aR.of (zi hp) (.dic (ig se.sub hp)) rfl)
theorem jw{b:B1}{S:Sh}{H0 H:Hp}{ds:List D}{vs:List V}{Q:VK}{ies:Es}(s:qf H0 H)(hS:Sub S H)(r:dA g H S ds vs)(k:tR g E H (b1 b ds) λd=>∀v H',aR g c (.bi b ies) S H0 d v H'->Q v H'):rB1 g b vs H Q:=by
 refine⟨S,ds,hS,r,?_⟩;cases q:b1 b ds with
 |ok d=>
  rw[q]at k;exact λv H' s' r' f=>k v H' ⟨s.trans s',.inl r',λ_=>r',λz=>by
   have:b=.list\/b=.sorted:=by cases b<;>simp[fresh]at z ⊢
   exact(f this).low s⟩
 |ex z=>exact sD q
 |no=>rw[q]at k;exact k
theorem pK(O:XO w g c E X){x:Str}{b:B1}{e:Expr}{es:List Expr}{ies:Es}(h:glob c x=some (.bi b))(hc:X.calm=true\/b=.len\/b=.abs)(ha:PA X (e::es) (tA w g c E ies))(hs:∀z∈e::es,isStar z=false):PE X (.Call (.Name x p2) (e::es) [] pos) (tE w g c E (.bi b ies)):=by
 obtain⟨h1,h2,id,h3⟩:=O.gm h;have hb:=vy b;rw[<-h2,h3]at hb;have hcall:=i5 (X:=X) (g:=g) O.K O.units b (by rcases hc with z|z|z;exact .inl z;exact .inr (.inl z);exact .inr (.inr (.inl z)));rw[h3]at hcall;refine PE.imp (lY hcall (O.gl h) h1 hb ha (qW h).2.2.2 (qW h).2.2.1 (qT (hs e aM)) (eJ λz hz=>hs z (aL _ hz))) λσ H Q ⟨τ,S,se,k⟩=>?_
 simp only[qV,zd,qX,qY,zb,qU,qZ,ze,zc,ql,qB,qD,qx,qy,qm,qF,qo,qq,qE,qs,qJ,qk,qG,qM,qC,qr,qI,qH,qP,qt,qQ,qK,qN,qO,qL,qh,qp,qA,qu]at k;exact dY se k λds vs H1 e1 s1 r1 r1' k1=>jw (ies:=ies) s1 (se.sub.same s1) r1 k1
theorem tJ(O:XO w g c E X){x:Str}{n:String}{b:B1}{e:Expr}{es:List Expr}{ies:Es}(h:glob c x=some (.ty n (some b)))(ha:PA X (e::es) (tA w g c E ies))(hs:∀z∈e::es,isStar z=false):PE X (.Call (.Name x p2) (e::es) [] pos) (tE w g c E (.bi b ies)):=by
 obtain⟨h1,h2,_,h3⟩:=O.gm h;obtain⟨_,h4⟩:=h3 b rfl;have hcall:=i5 (X:=X) (g:=g) O.K O.units b (by cases b<;>simp[b1V]at h4 ⊢);rw[h4]at hcall;refine PE.imp (eX hcall (O.gl h) h1 h2 ha (qW h).2.2.2 (qW h).2.2.1 (qT (hs e aM)) (eJ λz hz=>hs z (aL _ hz))) λσ H Q ⟨τ,S,se,k⟩=>?_
 simp only[qV,zd,qX,qY,zb,qU,qZ,ze,zc,ql,qB,qD,qx,qy,qm,qF,qo,qq,qE,qs,qJ,qk,qG,qM,qC,qr,qI,qH,qP,qt,qQ,qK,qN,qO,qL,qh,qp,qA,qu]at k;exact dY se k λds vs H1 e1 s1 r1 r1' k1=>jw (ies:=ies) s1 (se.sub.same s1) r1 k1
end
section
variable{w:W}{g:Gc}{c:Cc}{E:XK}{X:Cx}{a b d f:Expr}{ia ib id' if':EV.E}{pos p2:Pos}{ta tb:T}
noncomputable def uL(w:W)(g:Gc)(d:D)(vc:V)(bb:Bool):Cl->Prop
 | .ty n=>vc=.ty n/\((n∈["int","bool","str","list","tuple"]/\∃t,tyD d=some t/\bb=dM t n)\/∃k,d=.exn k/\w.sub k (.ty n)=some bb)
 | .ex x=>∃D k,g.clA x=some D/\vc=.ref D/\d=.exn k/\w.sub k (.ex x)=some bb
noncomputable def clV(g:Gc)(vc:V):Cl->Prop
 | .ty n=>vc=.ty n/\(n∈["int","bool","str","list","tuple"]\/n = "ValueError")
 | .ex x=>∃D,g.clA x=some D/\vc=.ref D
theorem xl(O:XO w g c E X):zh X (.builtin "isinstance") (λxs H Q=>∃(S:Sh) (d:D) (v:V) (cl:Cl) (vc:V) (bb:Bool),xs=[v,vc]/\zp g H S d v/\uL w g d vc bb cl/\Q (.bl bb) H):=by
 have k:=(pe (X:=X) (g:=g) O.K).or (mO (X:=X));refine zh.imp k λxs H Q ⟨S,d,v,cl,vc,bb,e,rd,h,q⟩=>?_
 have exn:∀(kk:Str) (cv:ae),d=.exn kk->gP vc=some cv->(∃C,g.clA kk=some C/\zD g.K C/\aW g.K (.ref C) cv=some bb)->∃x c cv t b,xs=[x,c]/\gP c=some cv/\TyX X.K H x t/\aW X.K t cv=some b/\Q (.bl b) H:=λkk cv ed hv ⟨C,h1,h2,h3⟩=>by
  subst ed;cases rd.rep with
  | @exn _ a C' z1 z2=>
   rw[h1]at z1;cases z1;exact⟨_,vc,cv,.ref C,bb,e,hv,.inr ⟨a,C,rfl,rfl,z2,by rw[O.K];exact h2⟩,by rw[O.K];exact h3,q⟩
 cases cl with
 |ty n=>
  obtain⟨rfl,⟨hn,t,ht,rfl⟩|⟨kk,rfl,hk⟩⟩:=h
  ·exact .inl ⟨S,d,v,n,t,e,rd,ht,hn,q⟩
  ·obtain⟨C,cv,z1,z2,z3,z4,z5⟩:=O.sub kk (.ty n) bb hk;exact .inr (exn kk (.type n) rfl rfl ⟨C,z1,z2,z5▸z3⟩)
 |ex x=>
  obtain⟨D,kk,h1,rfl,rfl,hk⟩:=h;obtain⟨C,cv,z1,z2,z3,D',z4,z5⟩:=O.sub kk (.ex x) bb hk;rw[h1]at z4;cases z4;exact .inr (exn kk (.ref D) rfl rfl ⟨C,z1,z2,z5▸z3⟩)
theorem nJ{x:D}{cl:Cl}:(∃t n,tyD x=some t/\cl=.ty n/\n≠"ValueError"/\bD w x cl=.ok (.bl (dM t n)))\/(∃k b,x=.exn k/\w.sub k cl=some b/\bD w x cl=.ok (.bl b))\/bD w x cl=.no:=by
 unfold bD;cases e:tyD x with
 |some t=>
  cases cl with
  |ty n=>
   by_cases hn:n = "ValueError"
   ·exact .inr (.inr (by simp[hn]))
   ·exact .inl ⟨t,n,rfl,rfl,hn,by simp[hn]⟩
  |ex y=>exact .inr (.inr rfl)
 |none=>
  cases x with
  |exn k=>
   cases q:w.sub k cl with
   |none=>exact .inr (.inr (by simp[q]))
   |some b=>exact .inr (.inl ⟨k,b,rfl,q,by simp[q]⟩)
  |fn y=>exact .inr (.inr (by cases cl<;>rfl))
  |_=>cases e
theorem uz(O:XO w g c E X){x:Str}{k:Expr}{cl:Cl}(h:glob c x=some .isi)(ha:PE X a (tE w g c E ia))(hk:fL c k=some cl)(hs:isStar a=false):PE X (.Call (.Name x p2) [a,k] [] pos) (tE w g c E (.isi ia cl)):=by
 obtain⟨h1,rfl⟩:=O.gm h;obtain⟨y,q,rfl⟩:∃y q,k=.Name y q:=by
  cases k<;>first|exact⟨_,_,rfl⟩|(simp[fL]at hk)
 obtain⟨vc,hv,hc⟩:∃vc,PE X (.Name y q) (tC vc)/\clV g vc cl:=by
  simp only[fL]at hk;split at hk
  ·rename_i n b e
   cases hk;obtain⟨z1,z2,z3,_⟩:=O.gm e;exact⟨.ty n,mU (O.gl e) z1 z2 rfl (qW e).2.2.2 (qW e).2.2.1,rfl,z3⟩
  ·rename_i e
   cases hk;obtain⟨C,z1,z2⟩:=O.gm e;exact⟨.ref C,gX (O.gl e) z1 rfl (qW e).2.2.1,C,z2,rfl⟩
  ·rename_i e
   cases hk;obtain⟨C,z1,z2⟩:=O.gm e;exact⟨.ref C,gX (O.gl e) z1 rfl (qW e).2.2.1,C,z2,rfl⟩
  ·cases hk
 refine PE.imp (lY (xl O) (O.gl h) h1 (by decide +kernel) (zw ha (zw hv b5) (qT hs)) (by decide) (by decide) (qT hs) rfl) λσ H Q ⟨τ,S,se,k⟩=>?_
 simp only[qV,zd,qX,qY,zb,qU,qZ,ze,zc,ql,qB,qD,qx,qy,qm,qF,qo,qq,qE,qs,qJ,qk,qG,qM,qC,qr,qI,qH,qP,qt,qQ,qK,qN,qO,qL,qh,qp,qA,qu]at k;refine zg se k λda va H1 e1 p1 k1=>?_
 rcases nJ (w:=w) (x:=da) (cl:=cl)with ⟨t,n,z1,rfl,z2,z3⟩|⟨kk,bb,rfl,z2,z3⟩|z3
 ·rw[z3]at k1;obtain⟨rfl,hc|hc⟩:=hc
  ·exact⟨S,da,va,.ty n,.ty n,_,rfl,p1.rb,⟨rfl,.inl ⟨hc,t,z1,rfl⟩⟩,k1 _ _ (aR.of p1.same (.bl _) rfl)⟩
  ·exact absurd hc z2
 ·rw[z3]at k1;refine⟨S,.exn kk,va,cl,vc,bb,rfl,p1.rb,?_,k1 _ _ (aR.of p1.same (.bl _) rfl)⟩;cases cl with
  |ty n=>exact⟨hc.1,.inr ⟨kk,rfl,z2⟩⟩
  |ex x=>obtain⟨D,z4,z5⟩:=hc;exact⟨D,kk,z4,z5,rfl,z2⟩
 ·rw[z3]at k1;exact k1.elim
theorem vY(O:XO w g c E X)(ha:PE X a (tE w g c E ia))(he:∀whole,isTrue a X.env whole=(do let v <-whole;standAt a.pos;holding [v] (truthy v))):PT X a (tT w g c E (.val ia)):=
 PT.imp (vt ha he) λσ H Q ⟨τ,S,se,k⟩=>by
  simp only[di,dh,du,dt,dr,cZ,c_]at k;refine zg se k λda va H1 e1 p1 k1=>?_
  cases q:truth da with
  |ok z=>rw[q]at k1;exact⟨z,vw O.K p1.rb q,k1 _ p1.same⟩
  |ex z=>exact absurd q tW
  |no=>rw[q]at k1;exact k1.elim
theorem vm(ha:PT X a (tT w g c E ta)):PT X (.UnaryOp .Not a pos) (tT w g c E (.not ta)):=
 PT.imp (xo ha) λσ H Q ⟨τ,S,se,k⟩=>by
  simp only[di,dh,du,dt,dr,cZ,c_]at k;exact f_ se k λz H1 e1 s1 k1=>k1 _ s1
theorem oV{rest:List Expr}(ha:PT X a (tT w g c E ta))(hb:PW X (.BoolOp .And (b::rest) pos) (tT w g c E tb)):PW X (.BoolOp .And (a::b::rest) pos) (tT w g c E (.and ta tb)):=
 PW.imp (tL ha hb) λσ H Q ⟨τ,S,se,k⟩=>by
  simp only[di,dh,du,dt,dr,cZ,c_]at k;refine f_ se k λz H1 e1 s1 k1=>?_
  cases z with
  |true=>exact⟨τ,S,se.up s1,tR.imp k1 λb hk H' s=>hk H' (s1.trans s)⟩
  |false=>exact k1 _ s1
theorem vS{rest:List Expr}(ha:PT X a (tT w g c E ta))(hb:PW X (.BoolOp .Or (b::rest) pos) (tT w g c E tb)):PW X (.BoolOp .Or (a::b::rest) pos) (tT w g c E (.or ta tb)):=
 PW.imp (r_ ha hb) λσ H Q ⟨τ,S,se,k⟩=>by
  simp only[di,dh,du,dt,dr,cZ,c_]at k;refine f_ se k λz H1 e1 s1 k1=>?_
  cases z with
  |false=>exact⟨τ,S,se.up s1,tR.imp k1 λb hk H' s=>hk H' (s1.trans s)⟩
  |true=>exact k1 _ s1
theorem PI.or{tg e:Expr}{t t':TI}(h:PI X tg e t)(h':PI X tg e t'):PI X tg e (λσ H R=>t σ H R\/t' σ H R):=λpins s σ H R I q=>by
 rcases q with q|q
 ·exact h pins s σ H R I q
 ·exact h' pins s σ H R I q
theorem i7{K:aq}{a:Addr}{vs:List V}{ds:List D}{H:Hp}{S:Sh}(hl:SqL K H a vs)(r:za g (hid H S) ds vs):Goes g (Itl K a) ds H S:=by
 refine⟨λi hi=>⟨vs,hl,by rw[<-r.length];exact hi⟩,λi d hd=>?_⟩;obtain⟨v,h1,h2⟩:=r.get hd;refine⟨⟨vs,v,hl,h1⟩,λx H' ⟨e,hx⟩=>?_⟩;subst e;have:=hx vs hl;rw[h1]at this;cases this;exact⟨qf.refl _,h2⟩
theorem kE{K:aq}{a:Addr}{vs:List V}{ds:List D}{H:Hp}{S:Sh}(hl:SqT K H a vs)(r:za g (hid H S) ds vs):Goes g (Itt K a) ds H S:=by
 refine⟨λi hi=>⟨vs,hl,by rw[<-r.length];exact hi⟩,λi d hd=>?_⟩;obtain⟨v,h1,h2⟩:=r.get hd;refine⟨⟨vs,v,hl,h1⟩,λx H' ⟨e,hx⟩=>?_⟩;subst e;have:=hx vs hl;rw[h1]at this;cases this;exact⟨qf.refl _,h2⟩
theorem ki:∀{xs:List D}{k i:Nat}{d:D},(cq k xs)[i]? = some d->∃x,xs[i]? = some x/\d=.tup [.int ((k+i:Nat):Int),x]
 | [],_,_,_,h=>by simp[cq]at h
 |x::r,k,0,d,h=>by simp[cq]at h;exact⟨x,rfl,by rw[<-h];rfl⟩
 |x::r,k,i+1,d,h=>by
  simp only[cq,List.getElem?_cons_succ]at h;obtain⟨y,h1,h2⟩:=ki h;exact⟨y,by simpa using h1,by rw[h2,show k+1+i=k+(i+1)by lia]⟩
theorem lT:∀(xs:List D) (k:Nat),(cq k xs).length=xs.length
 | [],_=>rfl
 |x::r,k=>by simp[cq,lT r]
theorem lX{K:aq}{a:Addr}{vs:List V}{ds:List D}{H:Hp}{S:Sh}(hl:SqL K H a vs)(r:za g (hid H S) ds vs)(hS:Sub S H):Goes g (Ite K a) (cq 0 ds) H S:=by
 refine⟨λi hi=>⟨vs,hl,by rw[<-r.length,<-lT ds 0];exact hi⟩,λi d hd=>?_⟩;obtain⟨y,h0,rfl⟩:=ki hd;obtain⟨v,h1,h2⟩:=r.get h0;refine⟨⟨vs,v,hl,h1⟩,λx H' ⟨p,z,hp,e1,e2,hx⟩=>?_⟩;subst e1 e2;have:=hx vs hl;rw[h1]at this;cases this;refine⟨zi hp,?_⟩;rw[Nat.zero_add];exact dN hS hp (.cons (.int _) (.cons h2 .nil))
theorem gn{lo:Int}{n:Nat}{H:Hp}{S:Sh}:Goes g (Itr lo n) (zo lo n) H S:=by
 refine⟨λi hi=>by show n<=i;simpa[zo]using hi,λi d hd=>?_⟩;unfold zo at hd;rw[List.getElem?_map]at hd;cases q:(aZ n)[i]? with
 |none=>rw[q]at hd;cases hd
 |some j=>
  rw[q]at hd;cases hd;have hi:=(List.getElem?_eq_some_iff.mp q)
  obtain⟨h1,h2⟩:=hi;simp at h1 h2;subst h2;exact⟨h1,λx H' ⟨e1,e2⟩=>by subst e1 e2;exact⟨qf.refl _,.int _⟩⟩
theorem uf(O:XO w g c E X){tg:Expr}(ha:PE X a (tE w g c E ia)):PI X tg a (tIt w g c E (.seq ia)):=
 PI.imp (PI.or (m5 ha) (oI ha)) λσ H R ⟨τ,S,se,k⟩=>by
  have k0:=k;simp only[evI]at k;cases q:evE w ia τ with
  |ex z=>exact .inl ⟨τ,S,se,by rw[q]at k ⊢;exact k⟩
  |no=>rw[q]at k;exact k.elim
  |ok dd=>
   cases dd with
   |lst ds=>
    refine .inl (zg se k λda va H1 e1 p1 k1=>?_);rw[q]at e1;cases e1;obtain⟨ad,vs,rfl,h1,r1⟩:=p1.rb.lst;rw[<-O.K]at h1;refine⟨ad,rfl,⟨vs,h1⟩,k1 _ H1 p1.same (λH2 S2 s1 s2 _=>i7 (s1.seq h1) (r1.mono s2)) λho H2 S2 s2 _=>?_⟩;have he:esc ia=true:=by
     cases ia<;>first|rfl|(simp[owned]at ho)
    cases p1.st he with
    |lst h2 r2=>exact i7 (by rw[O.K];exact(s2.trans cg).seq h2) (r2.mono s2)
   |tup ds=>
    refine .inr (zg se k λda va H1 e1 p1 k1=>?_);rw[q]at e1;cases e1;cases p1.rb.strong (by intro _ z;cases z)with
    |tup h2 r2=>
     refine⟨_,rfl,⟨_,by rw[O.K];exact de cg h2⟩,k1 _ H1 p1.same (λH2 S2 s1 s2 _=>kE (by rw[O.K];exact de (s2.trans cg) h2) (r2.mono s2)) λho H2 S2 s2 _=>kE (by rw[O.K];exact de (s2.trans cg) h2) (r2.mono s2)⟩
   |_=>rw[q]at k;exact k.elim
theorem dI{j:Int}(h:qi j=true):-1000000<=j/\j<=1000000:=by simpa[qi]using h
theorem wI(O:XO w g c E X){x:Str}{tg:Expr}(h:glob c x=some .rng)(ha:PE X a (tE w g c E ia))(hs:isStar a=false):PI X tg (.Call (.Name x p2) [a] [] pos) (tIt w g c E (.rng ia)):=by
 obtain⟨h1,rfl⟩:=O.gm h;refine PI.imp (nP (O.gl h) h1 (zw ha b5 (qT hs)) (qT hs)) λσ H R ⟨τ,S,se,k⟩=>?_
 simp only[evI]at k;refine zg se k λda va H1 e1 p1 k1=>?_
 cases da with
 |int j=>
  simp only at k1;cases q:qi j with
  |true=>
   rw[q,if_pos rfl]at k1;obtain⟨z1,z2⟩:=dI q;exact⟨j,by rw[p1.rb.int],by lia,by lia,k1 _ H1 p1.same (λ_ _ _ _ _=>gn) λ_ _ _ _ _=>gn⟩
  |false=>rw[q]at k1;exact k1.elim
 |_=>exact k1.elim
theorem pX(O:XO w g c E X){x:Str}{tg:Expr}(h:glob c x=some .rng)(ha:PE X a (tE w g c E ia))(hb:PE X b (tE w g c E ib))(hs:isStar a=false)(hs':isStar b=false):PI X tg (.Call (.Name x p2) [a,b] [] pos) (tIt w g c E (.rng2 ia ib)):=by
 obtain⟨h1,rfl⟩:=O.gm h;refine PI.imp (nY (O.gl h) h1 (zw ha (zw hb b5 (qT hs')) (qT hs)) (by rw[qT hs,qT hs'];rfl) (qT hs')) λσ H R ⟨τ,S,se,k⟩=>?_
 simp only[evI]at k;refine zg se k λda va H1 e1 p1 k1=>zg (se.up p1.same) k1 λdb vb H2 e2 p2 k2=>?_
 cases da with
 |int i=>
  cases db with
  |int j=>
   simp only at k2;cases q:qi i&&qi j with
   |true=>
    rw[q,if_pos rfl]at k2;simp only[aB]at q;obtain⟨z1,z2⟩:=dI q.1;obtain⟨z3,z4⟩:=dI q.2;exact⟨i,j,by rw[p1.rb.int,p2.rb.int],⟨by lia,by lia,by lia,by lia⟩,k2 _ H2 (p1.same.trans p2.same) (λ_ _ _ _ _=>gn) λ_ _ _ _ _=>gn⟩
   |false=>rw[q]at k2;exact k2.elim
  |_=>exact k2.elim
 |_=>exact k2.elim
theorem oR(O:XO w g c E X){x:Str}{es:List Expr}{ek:Nat}{epos:Pos}(h:glob c x=some .enum)(ha:PE X a (tE w g c E ia))(hs:isStar a=false):PI X (.Tuple es ek epos) (.Call (.Name x p2) [a] [] pos) (tIt w g c E (.enum ia)):=by
 obtain⟨h1,rfl⟩:=O.gm h;refine PI.imp (mf (O.gl h) h1 (by decide +kernel) (zw ha b5 (qT hs)) (qT hs)) λσ H R ⟨τ,S,se,k⟩=>?_
 simp only[evI]at k;refine zg se k λda va H1 e1 p1 k1=>?_
 cases da with
 |lst ds=>
  obtain⟨ad,vs,rfl,h1,r1⟩:=p1.rb.lst;rw[<-O.K]at h1;refine⟨ad,rfl,⟨vs,h1⟩,k1 _ H1 p1.same (λH2 S2 s1 s2 s3=>lX (s1.seq h1) (r1.mono s2) s3) λho H2 S2 s2 s3=>?_⟩;have he:esc ia=true:=by
   cases ia<;>first|rfl|(simp[owned]at ho)
  cases p1.st he with
  |lst h2 r2=>exact lX (by rw[O.K];exact(s2.trans cg).seq h2) (r2.mono s2) s3
 |_=>exact k1.elim
theorem v7(O:XO w g c E X){x:Str}{es:List Expr}{ek:Nat}{epos:Pos}(h:glob c x=some .zip)(ha:PE X a (tE w g c E ia))(hb:PE X b (tE w g c E ib))(hs:isStar a=false)(hs':isStar b=false):PI X (.Tuple es ek epos) (.Call (.Name x p2) [a,b] [] pos) (tIt w g c E (.zip ia ib)):=λpins s σ H R I ⟨τ,S,se,kk⟩=>by
 simp only[evI]at kk;exact aJ kk
end
noncomputable def fw:List Nat->TGs
 | []=>lQ
 |i::is=>jK (dg i) (fw is)
noncomputable def gT(K:aq):Tg->TG
 | .nm i=>dg i
 | .tp is=>jm K is.length (fw is)
section
variable{w:W}{g:Gc}{c:Cc}{E:XK}{X:Cx}
theorem dy{x:Str}{i:Nat}(h:b6 c x=some i):loc c x=some i/\(c.nm.lookup x=some .local\/(c.nm.lookup x=some .cell/\(c.fnc=true\/c.oc.contains x=true))):=by
 unfold b6 at h;split at h
 ·rename_i q;exact⟨h,.inl q⟩
 ·rename_i q
  split at h
  ·rename_i z;exact⟨h,.inr ⟨q,by simpa using z⟩⟩
  ·cases h
 ·cases h
theorem kC(O:XO w g c E X){x:Str}{i:Nat}{pos:Pos}(h:b6 c x=some i):PG X (.Name x pos) (dg i):=by
 obtain⟨h1,h2⟩:=dy h;obtain⟨h3,_⟩:=cU h1;refine vK (by rw[O.N];exact O.nd) (by rw[O.N];exact h3) (by unfold L2.Loc;rw[O.nm];rcases h2 with z|z;exact .inl z;exact .inr z.1) ?_;rcases h2 with z|z
 ·exact .inr (by rw[O.nm];exact z)
 ·exact .inl (O.fn x z.2)
theorem j':∀{es:List Expr}{xs:List Str},eh es=some xs->∃ps:List Pos,es=(xs.zip ps).map (λp=>Expr.Name p.1 p.2)/\ps.length=xs.length
 | [],xs,h=>by simp[eh]at h;subst h;exact⟨[],rfl,rfl⟩
 |e::es,xs,h=>by
  cases e with
  |Name y p=>
   simp only[eh,a9]at h;obtain⟨ys,h1,rfl⟩:=h;obtain⟨ps,h2,h3⟩:=j' h1;exact⟨p::ps,by rw[h2];rfl,by simp[h3]⟩
  |_=>simp[eh]at h
theorem kv(O:XO w g c E X):∀{xs:List Str}{ps:List Pos}{is:List Nat},ps.length=xs.length->xs.mapM (b6 c)=some is ->
  PGs X ((xs.zip ps).map λp=>Expr.Name p.1 p.2) (fw is)/\(assignEach ((xs.zip ps).map λp=>Expr.Name p.1 p.2) X.env).length=is.length/\(assignEach ((xs.zip ps).map λp=>Expr.Name p.1 p.2) X.env).findIdx? (·.1)=none
 | [],ps,is,_,h=>by
  simp at h;subst h;exact⟨uW,rfl,rfl⟩
 |x::xs,[],_,h,_=>by simp at h
 |x::xs,p::ps,is,hl,h=>by
  simp only[List.mapM_cons,aA,az]at h;obtain⟨i,h1,js,h2,h3⟩:=h;cases h3;obtain⟨r1,r2,r3⟩:=kv O (xs:=xs) (ps:=ps) (by simpa using hl) h2;refine⟨pk (kC O h1) r1 rfl,?_,?_⟩
  ·show (assignEach ((xs.zip ps).map λp=>Expr.Name p.1 p.2) X.env).length+1=js.length+1;rw[r2]
  ·show List.findIdx? (·.1) ((false,_)::assignEach ((xs.zip ps).map λp=>Expr.Name p.1 p.2) X.env)=none;rw[List.findIdx?_cons];simp only[bJ,if_false];rw[r3];rfl
theorem fU(O:XO w g c E X){e:Expr}{tg:Tg}(h:cTg c e=some tg):PG X e (gT X.K tg):=by
 cases e with
 |Name x p=>
  simp only[cTg]at h;split at h
  ·cases h
  ·simp only[a9]at h;obtain⟨i,h1,rfl⟩:=h;exact kC O h1
 |Tuple es k p=>
  simp only[cTg]at h;split at h
  ·rename_i hc
   simp only[aA,az]at h;obtain⟨xs,h1,h⟩:=h;split at h
   ·cases h
   ·simp only[az]at h;obtain⟨is,h2,h⟩:=h;split at h
    ·cases h;obtain⟨ps,rfl,hl⟩:=j' h1;obtain⟨r1,r2,r3⟩:=kv O hl h2;exact oh (O.calm hc) r1 r2 r3
    ·cases h
  ·cases h
 |_=>simp[cTg]at h
noncomputable def eZ(c:Cc):Tg->Prop
 | .nm i=>∀x,c.N[i]? = some x->c.own.contains x=false
 | .tp is=>∀i∈is,∀x,c.N[i]? = some x->c.own.contains x=false
theorem kY{α β:Type}{f:α->Option β}:∀{xs:List α}{ys:List β},xs.mapM f=some ys->∀y∈ys,∃x∈xs,f x=some y
 | [],ys,h,y,hy=>by simp at h;subst h;simp at hy
 |x::xs,ys,h,y,hy=>by
  simp only[List.mapM_cons,aA,az]at h;obtain⟨z,h1,zs,h2,h3⟩:=h;cases h3;rcases aI.mp hy with rfl|hy
  ·exact⟨x,aM,h1⟩
  ·obtain⟨x',h4,h5⟩:=kY h2 y hy;exact⟨x',aL _ h4,h5⟩
theorem kG{e:Expr}{tg:Tg}(h:cTg c e=some tg):eZ c tg:=by
 have one:∀{x:Str}{i:Nat},c.own.contains x=false->b6 c x=some i->∀y,c.N[i]? = some y->c.own.contains y=false:=λ{x i} ho hl y hy=>by
  obtain⟨h3,_⟩:=cU (dy hl).1;rw[h3]at hy;cases hy;exact ho
 cases e with
 |Name x p=>
  simp only[cTg]at h;split at h
  ·cases h
  ·rename_i ho
   simp only[a9]at h;obtain⟨i,h1,rfl⟩:=h;exact one (by simpa using ho) h1
 |Tuple es k p=>
  simp only[cTg]at h;split at h
  ·simp only[aA,az]at h;obtain⟨xs,h1,h⟩:=h;split at h
   ·cases h
   ·rename_i ho
    simp only[az]at h;obtain⟨is,h2,h⟩:=h;split at h
    ·cases h;intro i hi;obtain⟨x,hx,hl⟩:=kY h2 i hi;refine one ?_ hl;cases q:c.own.contains x with
     |false=>rfl
     |true=>exact absurd (List.any_eq_true.mpr ⟨x,hx,q⟩) ho
    ·cases h
  ·cases h
 |_=>simp[cTg]at h
section
variable{τ τ':Env}{σ:L2.St}{H:Hp}{S:Sh}
theorem SE.set{i:Nat}{d:D}{v:V}(se:SE g c τ σ H S)(r:Rep g (hid H S) d v):SE g c (τ.set i (some d)) (σ.set i (some v)) H S:=by
 refine⟨by simp[se.len],λj e h=>?_,se.sub⟩;by_cases hij:i=j
 ·subst hij;by_cases hi:i<τ.length
  ·simp[hi]at h;subst h;have hi':i<σ.length:=by rw[<-se.len];exact hi
   exact⟨v,by simp[hi'],.inl r,λ_ _ _=>r⟩
  ·rw[List.set_eq_of_length_le (by lia)]at h;rw[List.getElem?_eq_none (by lia)]at h;cases h
 ·rw[List.getElem?_set_ne hij]at h ⊢;exact se.val j e h
theorem SE.setAll{is:List Nat}:∀{ds:List D}{vs:List V}{τ:Env}{σ:L2.St}{Q:L2.St->Hp->Prop},SE g c τ σ H S->za g (hid H S) ds vs->setAll is ds τ=.ok τ'->(∀σ',SE g c τ' σ' H S->Q σ' H)->fw is vs σ H Q:=by
 induction is with
 |nil=>
  intro ds vs τ σ Q se r h k;cases r with
  |nil=>cases (show R.ok τ=R.ok τ' from h);exact⟨rfl,k σ se⟩
  |cons _ _=>cases (show R.no=R.ok τ' from h)
 |cons i is ih=>
  intro ds vs τ σ Q se r h k;cases r with
  |nil=>cases (show R.no=R.ok τ' from h)
  |cons r rs=>exact⟨_,_,rfl,ih (se.set r) rs h k⟩
theorem uJ(O:X.K=g.K){tg:Tg}{d:D}{v:V}{Q:L2.St->Hp->Prop}(se:SE g c τ σ H S)(r:Rep g (hid H S) d v)(h:store tg d τ=.ok τ')(k:∀σ',SE g c τ' σ' H S->Q σ' H):gT X.K tg v σ H Q:=by
 cases tg with
 |nm i=>
  simp only[store,R.ok.injEq]at h;subst h;exact k _ (se.set r)
 |tp is=>
  cases d with
  |tup ds=>
   simp only[store]at h;split at h
   ·rename_i hl
    cases r with
    |tup h1 r1=>exact⟨_,_,rfl,by rw[O];exact de cg h1,by rw[<-r1.length];exact hl,se.setAll r1 h k⟩
   ·cases h
  |_=>simp[store]at h
end
end
abbrev bY(c:Cc)(sc:aH):Cc:={c with nm:=fC sc.names c.nm,N:=zU sc.names,fnc:=false,oc:=eW sc.names}
section
variable{w:W}{g:Gc}{c:Cc}{E:XK}{X:Cx}
theorem XO.comp(O:XO w g c E X){sc:aH}(hk:sc.kind=.function)(hnd:(zU sc.names).Nodup)(cl:List (Str×Addr))(C:Addr)(s₀:af)(H₀:Hp)(fp:List Addr):XO w g (bY c sc) E0 (zu X (zU sc.names) sc cl C s₀ H₀ fp) where
 K:=O.K
 nm:=by
  show (relabel sc X.env).names=fC sc.names c.nm;unfold relabel fC;simp only
  congr 1
  funext p;have h1:(X.env.scope.kind==ScopeKind.function)=true:=by rw[O.kind];rfl
  have h2:X.env.kindOf p.1=c.nm.lookup p.1:=by show X.env.scope.names.lookup p.1=_;rw[O.nm]
  obtain⟨n,k⟩:=p;simp only at h2;simp only[h1,h2,Bool.and_true]
 N:=rfl
 nd:=hnd
 calm:=O.calm
 units:=O.units
 fn:=λx z=>z.elim (λz=>by cases z) λz=>z
 kind:=hk
 pass:=iO rfl rfl
 gok:=O.gok
 fns:=O.fns
 sub:=O.sub
theorem wA{α:Type}{τ:Env}{σ:L2.St}{H:Hp}{S:Sh}{it:It}{f:List D->R α}{P:α->Prop}{R':L2.It->Hp->Prop}(se:SE g c τ σ H S)(h:tR g E H ((evI w it τ).bind f) P)
  (k:∀ds J H',evI w it τ=.ok ds->qf H H'->(∀H2 S2,qf H' H2->qf (hid H' S) (hid H2 S2)->Sub S2 H2->Goes g J ds H2 S2)->(owned it=false->∀H2 S2,qf (hid H' S) (hid H2 S2)->Sub S2 H2->Goes g J ds H2 S2)->tR g E H' (f ds) P->R' J H'):tIt w g c E it σ H R':=by
 refine⟨τ,S,se,?_⟩;cases q:evI w it τ with
 |ok d=>rw[q]at h;exact λJ H' s k1 k2=>k d J H' q s k1 k2 (tR.up h s)
 |ex x=>rw[q]at h;exact h
 |no=>rw[q]at h;exact h
theorem m6{α:Type}{r:R α}{x:Str}:noEx r≠.ex x:=by cases r<;>intro h<;>cases h
theorem xp{α:Type}{r:R α}{a:α}(h:noEx r=.ok a):r=.ok a:=by cases r<;>first|exact h|cases h
theorem j6{body:D->Env->R (Env×List D)}(hb:∀d τ x,body d τ≠.ex x):∀{ds:List D}{τ:Env}{acc:List D}{x:Str},zC body ds τ acc≠.ex x
 | [],_,_,_,h=>by cases h
 |d::r,τ,acc,x,h=>by
  simp only[zC]at h;cases q:body d τ with
  |ok p=>rw[q]at h;exact j6 hb h
  |ex y=>exact hb _ _ _ q
  |no=>rw[q]at h;cases h
theorem SE.caps{sc:aH}{cap:List (Option Nat)}{τ:Env}{σ:L2.St}{H:Hp}{S:Sh}(O:XO w g c E X)(hc:kx X (zU sc.names) cap sc)(se:SE g c τ σ H S):SE g (bY c sc) (cc cap τ) (L2.caps cap σ) H S:=by
 refine⟨by simp[cc,L2.caps],λi d h=>?_,se.sub⟩;unfold cc at h;rw[List.getElem?_map]at h;cases q:cap[i]? with
 |none=>rw[q]at h;cases h
 |some o=>
  cases o with
  |none=>rw[q]at h;cases h
  |some j=>
   rw[q]at h;simp only[Option.map_some,Option.bind_some,bB]at h;cases q2:τ[j]? with
   |none=>rw[q2]at h;cases h
   |some z=>
    rw[q2]at h;cases z with
    |none=>cases h
    |some d'=>
     have:d'=d:=by simpa using h
     subst this;obtain⟨v,h1,h2,h3⟩:=se.val j d' q2;refine⟨v,?_,h2,λx hx ho=>?_⟩
     ·unfold L2.caps;rw[List.getElem?_map,q];simp[h1]
     ·obtain⟨y,e1,e2,_⟩:=hc.2 i j q;have hx':(zU sc.names)[i]? = some x:=hx;rw[e1]at hx';cases hx';exact h3 _ (by rw[<-O.N];exact e2) ho
theorem ft{H:Hp}{S:Sh}{p:Addr}{o:HO}(h:S.h p=true):hid (upd H p o) S=hid H S:=by
 funext b;unfold hid;by_cases hb:b=p
 ·subst hb;rw[if_pos h,if_pos h]
 ·rw[qg hb]
theorem SE.grow{c:Cc}{τ:Env}{σ:L2.St}{H:Hp}{S:Sh}{p:Addr}{o:HO}(se:SE g c τ σ H S)(h:S.h p=true)(ho:S.o p=false):SE g c τ σ (upd H p o) S:=by
 refine⟨se.len,λi d e=>?_,λa ha n=>?_⟩
 ·obtain⟨v,h1,h2,h3⟩:=se.val i d e;refine⟨v,h1,?_,λx hx hy=>by rw[ft h];exact h3 x hx hy⟩;rcases h2 with h2|⟨a,vs,ds,z1,z2,z3,z4,z5⟩
  ·exact .inl (by rw[ft h];exact h2)
  ·refine .inr ⟨a,vs,ds,z1,z2,z3,?_,by rw[ft h];exact z5⟩;rw[qg (λz=>by rw[z,ho]at z1;cases z1)];exact z4
 ·by_cases hb:a=p
  ·subst hb;rw[zm]at n;cases n
  ·rw[qg hb]at n;exact se.sub a ha n
theorem SE.hide{c:Cc}{τ:Env}{σ:L2.St}{H:Hp}{S:Sh}{p:Addr}{vs:List V}(se:SE g c τ σ H S)(hp:H p=none):SE g c τ σ (upd H p (.lst vs)) (zT S p):=by
 refine⟨se.len,λi d e=>?_,λa ha n=>?_⟩
 ·obtain⟨v,h1,h2,h3⟩:=se.val i d e;refine⟨v,h1,?_,λx hx hy=>(h3 x hx hy).mono (fT hp)⟩;rcases h2 with h2|⟨a,vs,ds,z1,z2,z3,z4,z5⟩
  ·exact .inl (h2.mono (fT hp))
  ·exact .inr ⟨a,vs,ds,z1,z2,z3,zi hp _ _ z4,z5.mono (fT hp)⟩
 ·by_cases hb:a=p
  ·subst hb;rw[zm]at n;cases n
  ·rw[qg hb]at n;refine se.sub a ?_ n;rcases ha with ha|ha
   ·refine .inl ?_;have ha:(S.h a||a==p)=true:=ha
    simpa[hb]using ha
   ·exact .inr ha
theorem lP(O:XO w g c E X){sc:aH}{cap:List (Option Nat)}{iit:It}{itg:Tg}{tt:T}{ielt:EV.E}(hS:zR X (zU sc.names) cap sc)(he:esc ielt=true){σ:L2.St}{H:Hp}{Q:VK}(hq:tE w g c E (.comp iit cap itg tt ielt) σ H Q) :
  iF cap (tIt w g c E iit) (gT X.K itg) (tT w g (bY c sc) E0 tt) (λacc=>fF acc (tE w g (bY c sc) E0 ielt)) σ H Q:=by
 obtain⟨τ,S,se,k⟩:=hq;simp only[qV,zd,qX,qY,zb,qU,qZ,ze,zc,ql,qB,qD,qx,qy,qm,qF,qo,qq,qE,qs,qJ,qk,qG,qM,qC,qr,qI,qH,qP,qt,qQ,qK,qN,qO,qL,qh,qp,qA,qu]at k;refine wA se k λds J H1 e1 s1 kW _ k1 acc hacc=>?_
 by_cases hz:SZ<ds.length
 ·rw[if_pos hz]at k1;exact k1.elim
 rw[if_neg hz]at k1;generalize hbody:(λx σ=>noEx ((store itg x σ).bind λσ'=>(evT w tt σ').bind λr=>if r=true then (evE w ielt σ').bind λd=>R.ok (σ',[d])else R.ok (σ',[])))=body at k1;have bex:∀d τ x,body d τ≠.ex x:=λd τ x=>by rw[<-hbody];exact m6
 cases hl:zC body ds (cc cap τ) []with
 |ex z=>exact absurd hl (j6 bex)
 |no=>rw[hl]at k1;exact k1.elim
 |ok out=>
  rw[hl]at k1;simp only[R.bind_ok]at k1;have k1:∀v H',aR g c (.comp iit cap itg tt ielt) S H (.lst out) v H'->Q v H':=k1;have sub1:=se.sub.same s1;have hoacc:S.o acc=false:=sub1.freeO hacc;have hhacc:(zT S acc).h acc=true:=by show (S.h acc||acc==acc)=true;simp
  -- what holds between two turns
  refine⟨λi m σ' H'=>m=ds.length-i/\i<=ds.length/\∃τ' o,zC body (ds.drop i) τ' o=.ok out/\SE g (bY c sc) τ' σ' H' (zT S acc)/\o.length<=i/\qf H1 H'/\∃vs,H' acc=some (.lst vs)/\za g (hid H' (zT S acc)) o vs,
   ⟨ds.length,rfl,Nat.zero_le _,cc cap τ,[],hl,(se.up s1).caps O hS.cap |>.hide hacc,aC _,zi hacc,[],zm,.nil⟩,?_⟩
  rintro i m σ' H' ⟨rfl,hi',τ',o,hlo,se',hol,s1',vs,hv,hr⟩;have keep:qf (hid H1 S) (hid H' (zT S acc)):=λb u hb=>by
   obtain⟨z1,z2⟩:=bx.mp hb;refine bx.mpr ⟨?_,s1' _ _ z2⟩;show (S.h b||b==acc)=false;rw[z1]
   simpa using λz:b=acc=>by rw[z,hacc]at z2;cases z2
  obtain⟨g1,g2⟩:=kW H' (zT S acc) s1' keep se'.sub;by_cases hlt:i<ds.length
  ·have hd:ds[i]? = some ds[i]:=List.getElem?_eq_getElem hlt;obtain⟨go1,go2⟩:=g2 i ds[i] hd;refine .inr ⟨go1,λσ'' H''=>∃τ' o,zC body (ds.drop (i+1)) τ' o=.ok out/\SE g (bY c sc) τ' σ'' H'' (zT S acc)/\o.length<=i+1/\qf H1 H''/\∃vs,H'' acc=some (.lst vs)/\za g (hid H'' (zT S acc)) o vs,
    λσ'' H'' z=>⟨ds.length-(i+1),by lia,rfl,hlt,z⟩,λx H2 hy=>?_⟩
   obtain⟨s2,rx⟩:=go2 x H2 hy;rw[List.drop_eq_getElem_cons hlt]at hlo;simp only[zC]at hlo;cases q:body ds[i] τ' with
   |ex z=>exact absurd q (bex _ _ _)
   |no=>rw[q]at hlo;cases hlo
   |ok p=>
    rw[q]at hlo;simp only[R.bind_ok]at hlo;rw[<-hbody]at q;have q:=xp q;cases q1:store itg ds[i] τ' with
    |ex z=>rw[q1]at q;cases q
    |no=>rw[q1]at q;cases q
    |ok τ1=>
     rw[q1]at q;simp only[R.bind_ok]at q;refine uJ O.K (se'.up s2) rx q1 λσ1 se1=>?_
     cases q2:evT w tt τ1 with
     |ex z=>rw[q2]at q;cases q
     |no=>rw[q2]at q;cases q
     |ok r=>
      rw[q2]at q;simp only[R.bind_ok]at q;refine⟨τ1,zT S acc,se1,?_⟩;rw[q2];intro H3 s3;have hv3:=s3 _ _ (s2 _ _ hv);have s13:=s1'.trans (s2.trans s3);cases r with
      |false=>
       simp only[bJ,if_false,R.ok.injEq]at q;subst q;rw[if_neg bT];exact⟨τ1,o++[],hlo,se1.up s3,by simp;lia,s13,vs,hv3,by rw[List.append_nil];exact hr.mono (zf (s2.trans s3))⟩
      |true=>
       simp only[if_true]at q;rw[if_pos rfl];cases q3:evE w ielt τ1 with
       |ex z=>rw[q3]at q;cases q
       |no=>rw[q3]at q;cases q
       |ok dd=>
        rw[q3]at q;simp only[R.bind_ok,R.ok.injEq]at q;subst q;refine⟨τ1,zT S acc,se1.up s3,?_⟩;rw[q3];intro v H4 p4;have hv4:=p4.same _ _ hv3;have hr4:=hr.mono (zf ((s2.trans s3).trans p4.same));have hz':vs.length<sizeLine:=by
         rw[<-hr.length,bh];have:ds.length<=SZ:=Nat.le_of_not_lt hz;unfold SZ at this;lia
        refine⟨vs,hv4,hz',τ1,o++[dd],hlo,(se1.up (s3.trans p4.same)).grow hhacc hoacc,by simp;lia,λb u hb=>?_,vs++[v],zm,?_⟩
        ·rw[qg (λz=>by rw[z,hacc]at hb;cases hb)];exact p4.same _ _ (s13 _ _ hb)
        ·rw[ft hhacc];exact hr4.append (.cons (p4.st he) .nil)
  ·have e:i=ds.length:=by lia
   subst e;refine .inl ⟨g1 ds.length (aC _),?_⟩;rw[List.drop_length]at hlo;simp only[zC,R.ok.injEq]at hlo;subst hlo;have rep:Rep g (hid H' S) (.lst o) (.ref acc):=.lst (SqL.of (bx.mpr ⟨sub1.free hacc,hv⟩)) (hr.mono j9);exact k1 _ _ (aR.new (s1.trans s1') rep ⟨acc,vs,o,rfl,rfl,s1.free hacc,hv,hr⟩)
theorem mX(O:XO w g c E X)(hcalm:X.calm=true){sc:aH}{cap:List (Option Nat)}{tgt it elt:Expr}{ifs:List Expr}{pos:Pos}{iit:It}{itg:Tg}{tt:T}{ielt:EV.E}(hS:zR X (zU sc.names) cap sc)(hnd:(zU sc.names).Nodup)
  (hi:PI X tgt it (tIt w g c E iit)) (hb:∀cl C s₀ H₀ fp,PG (zu X (zU sc.names) sc cl C s₀ H₀ fp) tgt (gT X.K itg)/\PTs (zu X (zU sc.names) sc cl C s₀ H₀ fp) ifs (tT w g (bY c sc) E0 tt)/\PE (zu X (zU sc.names) sc cl C s₀ H₀ fp) elt (tE w g (bY c sc) E0 ielt))
  (he:esc ielt=true) (hs:zl it=true):PE X (.ListComp elt [⟨tgt,it,ifs,0⟩] sc pos) (tE w g c E (.comp iit cap itg tt ielt)):=by
 exact PE.imp (nU (tb:=λacc=>fF acc (tE w g (bY c sc) E0 ielt)) hcalm hS hi (λcl C s₀ H₀ fp=>⟨(hb cl C s₀ H₀ fp).1,(hb cl C s₀ H₀ fp).2.1,λacc=>jO rfl (hb cl C s₀ H₀ fp).2.2⟩) (by simp) (λx=>by cases it<;>first|rfl|(simp[zl]at hs))) λσ H Q q=>lP O hS he q
end
section
variable{prog:aw}{w:ar}{A:av}{E:ae->af->Prop}{s:af}
theorem n_{Q:List ae->af->Prop}{r:Addr}{a b c:Int}{t u v:Tok}{n:Nat}(hh:A.handled=none)(hr:IsRange s.heap r a b c t u v)(hsmall:Builtin.Range.small a b c=true)(hn:Builtin.Range.rangeSize a b c=n)(hlen:n<=2^24)
  (hQ:∀h' tk acc,(∀b o',s.heap.get? b=some o'->h'.get? b=some o')->ItemsOf (λi v=>∃t,v=.int (a+i * c) t) acc n->Q acc.toList {s with heap:=h',toks:=tk}):ak (ao prog w) A (collect (.ref r)) Q E s:=by
 unfold collect;refine au (wpAny_runValue (codeAny_builtin PySem.F.entry_proto_collect ?_));rw[av.under_plainId PySem.F.plain_proto_collect _];show ak _ A.in1 (newList []>>=λl=>again (.builtin "list.__iadd__" ⟨[l,.ref r],[]⟩)) _ _ s;refine au (b9 ?_);refine aD ⟨plainId_quiet PySem.F.plain_list_iadd _,codeAny_builtin PySem.F.entry_list_iadd ?_⟩;rw[av.under_plainId PySem.F.plain_list_iadd _];show ak _ A.in1 (Builtin.List.listExtendWith (.ref s.heap.objs.size) (.ref r) (.ref s.heap.objs.size)) _ _ _;have hS:(s.heap.push {cls:=.type "list",data:=.seq ([]:List ae).toArray}).get? s.heap.objs.size=some {cls:=.type "list",data:=.seq #[] 0}:=Heap.get?_push_size _ rfl;have fin':∀(h':Heap) (tk:Nat) (acc:Array ae) (c':Nat),(∀b o,b≠s.heap.objs.size->(s.heap.push {cls:=.type "list",data:=.seq ([]:List ae).toArray}).get? b=some o->h'.get? b=some o)->h'.get? s.heap.objs.size=some {cls:=.type "list",dict:=none,data:=.seq acc c',slots:=#[]} ->
   ItemsOf (λi v=>∃t,v=.int (a+i * c) t) acc n->ak (ao prog w) A (match ae.ref s.heap.objs.size with
   |ae.ref a=>do
    match (<-load a).data with
     |Data.seq xs _=>pure xs.toList
     |_=>unsupported "internal:collect"
   |_=>unsupported "internal:collect") Q E {s with heap:=h',toks:=tk}:=λh' tk acc c' hk hS' hacc=>by
  show ak _ A (load s.heap.objs.size>>=_) _ _ _;refine au (wpAny_load hS' ?_);exact aD (hQ h' tk acc (λb o' hb=>hk b o' (aU (aE hb)) (Heap.get?_push_of_some _ hb)) hacc)
 refine bq (wpAny_extend_range (A:=A) (R:=λr s'=>r=.ok (.ret (.ref s.heap.objs.size))/\∃h' tk acc c',s'={s with heap:=h',toks:=tk}/\(∀b o,b≠s.heap.objs.size->(s.heap.push {cls:=.type "list",data:=.seq ([]:List ae).toArray}).get? b=some o->h'.get? b=some o)/\h'.get? s.heap.objs.size=some {cls:=.type "list",dict:=none,data:=.seq acc c',slots:=#[]}/\ItemsOf (λi v=>∃t,v=.int (a+i * c) t) acc n)
  (s:={s with heap:=s.heap.push {cls:=.type "list",data:=.seq ([]:List ae).toArray}}) hh (Heap.get?_push_of_some _ hr) hsmall hn hlen _ _ 0 hS λh' tk acc c' hk hS' hacc=>⟨rfl,h',tk,acc,c',rfl,hk,hS',hacc⟩) (λfin s' h=>?_) (λe s' h=>?_)
 ·cases fin with
  |done f=>
   obtain⟨e,h',tk,acc,c',rfl,hk,hS',hacc⟩:=h;cases e;exact fin' h' tk acc c' hk hS' hacc
  |again c'=>exact⟨h.1,codeAny_mono h.2 λr s'' hr=>by obtain⟨rfl,h',tk,acc,c',rfl,hk,hS',hacc⟩:=hr;exact fin' h' tk acc c' hk hS' hacc⟩
 ·exact absurd h.1 (by simp)
theorem mC(r:Addr)(a b c:Int)(t u v:Tok)(n:Nat)(hsmall:Builtin.Range.small a b c=true)(hn:Builtin.Range.rangeSize a b c=n)(hlen:n<=2^24) :
  PySem.Meets (Builtin.«tuple.__new__» ⟨[.type "tuple",.ref r],[]⟩)
   (λA R s=>A.handled=none/\IsRange s.heap r a b c t u v/\∀(h':Heap) (tk:Nat) (acc:Array ae),(∀b o',s.heap.get? b=some o'->h'.get? b=some o')->ItemsOf (λi v=>∃t,v=.int (a+i * c) t) acc n->R (.ok (.ret (.ref h'.objs.size))) {s with heap:=h'.push {cls:=.type "tuple",data:=.seq acc},toks:=tk}):=
 .of_wp λprog w A R s h=>by
  obtain⟨hh,ht,h⟩:=h;have hsub:=sub_tuple_self;have hinit:=init_tuple_lookup;have hmh:=madeHere_tuple;have hT:s.TypeIs (.ref r) "range":=⟨_,ht,rfl⟩
  have hh1:A.in1.handled=none:=hh
  wp_walk using wpAny_typeOf hT,n_ (hsmall:=hsmall) (hn:=hn) (hlen:=hlen) hh1 ht
  intro h' tk acc hk hacc;show ak _ _ (cy acc.toList.toArray>>=λv=>ret v) _ _ _;unfold cy;refine au (b9 ?_ (show acc.toList.toArray.size<=aF by simp only[Array.toArray_toList];rw[hacc.1,bh];lia));refine aD ⟨_,rfl,?_⟩;have e:acc.toList.toArray=acc:=by simp
  rw[e];exact h h' tk acc hk hacc
theorem wy{r:Addr}{a b c:Int}{t u v:Tok}{n:Nat}{Q:ae->af->Prop}(hh:A.handled=none)(hr:IsRange s.heap r a b c t u v)(hsmall:Builtin.Range.small a b c=true)(hn:Builtin.Range.rangeSize a b c=n)(hlen:n<=2^24)
  (h:∀(h':Heap) (tk:Nat) (acc:Array ae),(∀b o',s.heap.get? b=some o'->h'.get? b=some o')->ItemsOf (λi v=>∃t,v=.int (a+i * c) t) acc n->Q (.ref h'.objs.size) {s with heap:=h'.push {cls:=.type "tuple",data:=.seq acc},toks:=tk}) :
  ak (ao prog w) A (call (.type "tuple") [.ref r]) Q E s:=
 callType_new PySem.F.called_tuple (by decide) (PySem.F.typeCall_tuple_1 _) (PySem.F.newCall_tuple_1 _) (λobj=>PySem.F.args_object_init_2 obj _) PySem.F.entry_tuple_new
  (mC r a b c t u v n hsmall hn hlen) ⟨hh,hr,λh' tk acc hk hacc=>⟨⟨_,Heap.get?_push_size _ rfl,rfl⟩,h h' tk acc hk hacc⟩⟩
end
theorem jL:∀{xs:List V}{us:List ae},xs.length=us.length->(∀(i:Nat) x u,xs[i]? = some x->us[i]? = some u->L2.RelV x u)->Vals xs us
 | [],[],_,_=>.nil
 |x::xs,u::us,h,k=>.cons (k 0 x u rfl rfl) (jL (by simpa using h) λi y v h1 h2=>k (i+1) y v (by simpa using h1) (by simpa using h2))
 | [],_::_,h,_=>by simp at h
 |_::_,[],h,_=>by simp at h
noncomputable def cx(lo:Int)(n:Nat):List V:=(aZ n).map λ(i:Nat)=>.int (lo+(i:Int))
theorem jg{lo:Int}{n:Nat}{acc:Array ae}(h:ItemsOf (λi v=>∃t,v=.int (lo+i * 1) t) acc n):Vals (cx lo n) acc.toList:=by
 refine jL (by simp[cx,h.1]) λi x u hx hu=>?_
 unfold cx at hx;rw[List.getElem?_map]at hx;cases q:(aZ n)[i]? with
 |none=>rw[q]at hx;cases hx
 |some j=>
  rw[q]at hx;cases hx;obtain⟨h1,h2⟩:=List.getElem?_eq_some_iff.mp q;simp at h2;subst h2;obtain⟨t,ht⟩:=h.2 i u (by simpa using hu);rw[ht];exact⟨t,by rw[Int.mul_one]⟩
theorem iQ{g:Gc}{H:Hp}{lo:Int}{n:Nat}:za g H (zo lo n) (cx lo n):=by
 unfold zo cx;generalize aZ n=l
 induction l with
 |nil=>exact .nil
 |cons i l ih=>exact .cons (.int _) ih
section
variable{X:Cx}
theorem tU:zh X (.type "range") (λvs H Q=>∃lo hi,(vs=[.int hi]/\lo=0\/vs=[.int lo,.int hi])/\∀p,H p=none->Q (.ref p) (upd H p (.rng lo hi))):=by
 intro pins s σ H xs us Q I r h;obtain⟨lo,hi,h|h,q⟩:=h
 ·obtain⟨rfl,rfl⟩:=h;obtain⟨u,rfl,t,rfl⟩:=r.one;exact call_range_1 ⟨.ref _,_,I.laid (o:=.rng 0 hi) (λb o e=>Heap.get?_push_of_some _ e) (aC _) ⟨_,_,_,Heap.get?_push_size _ rfl⟩,rfl,q _ I.fresh⟩
 ·subst h;obtain⟨u,v,rfl,⟨t,rfl⟩,⟨t',rfl⟩⟩:=r.two;exact call_range_2 ⟨.ref _,_,I.laid (o:=.rng lo hi) (λb o e=>Heap.get?_push_of_some _ e) (aC _) ⟨_,_,_,Heap.get?_push_size _ rfl⟩,rfl,q _ I.fresh⟩
theorem i8{lo hi:Int}:Builtin.Range.rangeSize lo hi 1=((hi-lo).toNat:Nat):=by
 rw[rangeSize_one];split<;>lia
theorem ub(hc:X.calm=true):zh X (.type "list") (λvs H Q=>∃p lo hi,vs=[.ref p]/\H p=some (.rng lo hi)/\qi lo=true/\qi hi=true/\∀q,H q=none->Q (.ref q) (upd H q (.lst (cx lo (hi-lo).toNat)))):=by
 intro pins s σ H xs us Q I r h;obtain⟨p,lo,hi,rfl,hp,z1,z2,q⟩:=h;obtain⟨u,rfl,ru⟩:=r.one;cases ru;obtain⟨t,u,v,e⟩:=I.hok p _ hp;obtain⟨a1,a2⟩:=dI z1;obtain⟨b1,b2⟩:=dI z2;refine call_list_range (I.ok.hd hc) e (small_one (by lia) (by lia) (by lia) (by lia)) i8 (by lia) λh' tk acc c' hk hS hacc=>?_
 refine⟨.ref _,_,I.laid (h':=h') (t':=tk) (o:=.lst (cx lo (hi-lo).toNat)) hk (aC _) ⟨by simp[cx,bh];lia,acc.toList,c',jg hacc,by simpa using hS⟩,rfl,q _ I.fresh⟩
theorem xa(hc:X.calm=true):zh X (.type "tuple") (λvs H Q=>∃p lo hi,vs=[.ref p]/\H p=some (.rng lo hi)/\qi lo=true/\qi hi=true/\∀q,H q=none->Q (.ref q) (upd H q (.tup (cx lo (hi-lo).toNat)))):=by
 intro pins s σ H xs us Q I r h;obtain⟨p,lo,hi,rfl,hp,z1,z2,q⟩:=h;obtain⟨u,rfl,ru⟩:=r.one;cases ru;obtain⟨t,u,v,e⟩:=I.hok p _ hp;obtain⟨a1,a2⟩:=dI z1;obtain⟨b1,b2⟩:=dI z2;refine wy (I.ok.hd hc) e (small_one (by lia) (by lia) (by lia) (by lia)) i8 (by lia) λh' tk acc hk hacc=>?_
 have I1:Inv X pins σ H {s with heap:=h',toks:=tk}:=I.kept hk;refine⟨.ref _,_,I1.laid (t':=tk) (o:=.tup (cx lo (hi-lo).toNat)) (λb o e=>Heap.get?_push_of_some _ e) (aC _) ⟨by simp[cx,bh];lia,acc.toList,jg hacc,⟨_,Heap.get?_push_size _ rfl,rfl,0,by simp⟩⟩,rfl,q _ I1.fresh⟩
end
section
variable{w:W}{g:Gc}{c:Cc}{E:XK}{X:Cx}{a b:Expr}{ia ib:EV.E}{pos p2 p3 pos3:Pos}
theorem uA(O:XO w g c E X){x:Str}{e:Expr}{es:List Expr}{t:TA}(h:glob c x=some .rng)(ha:PA X (e::es) t)(hs:∀z∈e::es,isStar z=false) :
  PE X (.Call (.Name x p3) (e::es) [] pos3) (tCB (λvs H Q=>∃lo hi,(vs=[.int hi]/\lo=0\/vs=[.int lo,.int hi])/\∀p,H p=none->Q (.ref p) (upd H p (.rng lo hi))) t):=by
 obtain⟨h1,rfl⟩:=O.gm h;exact eX tU (O.gl h) h1 (by decide +kernel) ha (qW h).2.2.2 (qW h).2.2.1 (qT (hs e aM)) (eJ λz hz=>hs z (aL _ hz))
theorem kz(O:XO w g c E X)(hc:X.calm=true){x y:Str}{n:String}{bb:Option B1}{e:Expr}{es:List Expr}{it:It}{t:TA}(hT:glob c x=some (.ty n bb))(h:glob c y=some .rng)(ha:PA X (e::es) t)(hs:∀z∈e::es,isStar z=false)
  (hn:n = "tuple"\/n = "list")
  (k:∀σ H (Q:List V->Hp->Prop) τ S (P:List D->Prop),SE g c τ σ H S->tR g E H (evI w it τ) P->(∀lo hi vs H',qf H H'->(vs=[.int hi]/\lo=0\/vs=[.int lo,.int hi])->qi lo=true->qi hi=true->P (zo lo (hi-lo).toNat)->Q vs H')->t σ H Q) :
  PE X (.Call (.Name x p2) [.Call (.Name y p3) (e::es) [] pos3] [] pos) (tE w g c E (if n = "tuple" then .rtup it else .rlst it)):=by
 obtain⟨h1,h2,_,_⟩:=O.gm hT;have hr:=uA (p3:=p3) (pos3:=pos3) O h ha hs;rcases hn with rfl|rfl
 ·refine PE.imp (eX (xa hc) (O.gl hT) h1 h2 (zw hr b5) (qW hT).2.2.2 (qW hT).2.2.1) λσ H Q ⟨τ,S,se,q⟩=>?_
  rw[if_pos rfl]at q;simp only[qV,zd,qX,qY,zb,qU,qZ,ze,zc,ql,qB,qD,qx,qy,qm,qF,qo,qq,qE,qs,qJ,qk,qG,qM,qC,qr,qI,qH,qP,qt,qQ,qK,qN,qO,qL,qh,qp,qA,qu]at q;refine k σ H _ τ S _ se (tR.bnd q) λlo hi vs H' s hv z1 z2 hP=>⟨lo,hi,hv,λp hp=>⟨p,lo,hi,rfl,zm,z1,z2,λr hr=>?_⟩⟩
  have s1:=zi (o:=.rng lo hi) hp;exact hP _ _ (aR.of ((s.trans s1).trans (zi hr)) (dN (se.sub.same (s.trans s1)) hr iQ) rfl)
 ·refine PE.imp (eX (ub hc) (O.gl hT) h1 h2 (zw hr b5) (qW hT).2.2.2 (qW hT).2.2.1) λσ H Q ⟨τ,S,se,q⟩=>?_
  rw[if_neg (by decide)]at q;simp only[qV,zd,qX,qY,zb,qU,qZ,ze,zc,ql,qB,qD,qx,qy,qm,qF,qo,qq,qE,qs,qJ,qk,qG,qM,qC,qr,qI,qH,qP,qt,qQ,qK,qN,qO,qL,qh,qp,qA,qu]at q;refine k σ H _ τ S _ se (tR.bnd q) λlo hi vs H' s hv z1 z2 hP=>⟨lo,hi,hv,λp hp=>⟨p,lo,hi,rfl,zm,z1,z2,λr hr=>?_⟩⟩
  have s1:=zi (o:=.rng lo hi) hp;exact hP _ _ (aR.new ((s.trans s1).trans (zi hr)) (eY (se.sub.same (s.trans s1)) hr iQ) (fO (s.trans s1) hr iQ))
theorem oQ(O:XO w g c E X)(hc:X.calm=true){x y:Str}{bb:Option B1}{d:Expr}{id:EV.E}(hT:glob c x=some (.ty "tuple" bb))(h:glob c y=some .rng)(ha:PE X a (tE w g c E ia))(hb:PE X b (tE w g c E ib))(hd:PE X d (tE w g c E id))(hs:isStar a=false)(hs':isStar b=false)(hs'':isStar d=false) :
  PE X (.Call (.Name x p2) [.Call (.Name y p3) [a,b,d] [] pos3] [] pos) (tE w g c E (.rtup (.rng3 ia ib id))):=λpins s σ H Q I ⟨τ,S,se,kk⟩=>by
 simp only[qV,zd,qX,qY,zb,qU,qZ,ze,zc,ql,qB,qD,qx,qy,qm,qF,qo,qq,qE,qs,qJ,qk,qG,qM,qC,qr,qI,qH,qP,qt,qQ,qK,qN,qO,qL,qh,qp,qA,qu,evI,R.bind_no]at kk;exact aJ kk
theorem n9(ha:PE X a (tE w g c E ia))(hs:isStar a=false):PA X [a] (eM (tE w g c E ia) gq):=zw ha b5 (qT hs)
theorem rC:∀σ H (Q:List V->Hp->Prop) τ S (P:List D->Prop),SE g c τ σ H S->tR g E H (evI w (.rng ia) τ) P->(∀lo hi vs H',qf H H'->(vs=[.int hi]/\lo=0\/vs=[.int lo,.int hi])->qi lo=true->qi hi=true->P (zo lo (hi-lo).toNat)->Q vs H')->eM (tE w g c E ia) gq σ H Q:=by
 intro σ H Q τ S P se q k;simp only[evI]at q;refine zg se q λda va H1 e1 p1 k1=>?_
 cases da with
 |int j=>
  simp only at k1;cases z:qi j with
  |true=>rw[z,if_pos rfl]at k1;exact k 0 j _ H1 p1.same (.inl ⟨by rw[p1.rb.int],rfl⟩) (by decide) z (by rw[Int.sub_zero];exact k1)
  |false=>rw[z]at k1;exact k1.elim
 |_=>exact k1.elim
theorem pj:∀σ H (Q:List V->Hp->Prop) τ S (P:List D->Prop),SE g c τ σ H S->tR g E H (evI w (.rng2 ia ib) τ) P->(∀lo hi vs H',qf H H'->(vs=[.int hi]/\lo=0\/vs=[.int lo,.int hi])->qi lo=true->qi hi=true->P (zo lo (hi-lo).toNat)->Q vs H')->eM (tE w g c E ia) (eM (tE w g c E ib) gq) σ H Q:=by
 intro σ H Q τ S P se q k;simp only[evI]at q;refine zg se q λda va H1 e1 p1 k1=>zg (se.up p1.same) k1 λdb vb H2 e2 p2 k2=>?_
 cases da with
 |int i=>
  cases db with
  |int j=>
   simp only at k2;cases z:qi i&&qi j with
   |true=>
    rw[z,if_pos rfl]at k2;simp only[aB]at z;exact k i j _ H2 (p1.same.trans p2.same) (.inr (by rw[p1.rb.int,p2.rb.int])) z.1 z.2 k2
   |false=>rw[z]at k2;exact k2.elim
  |_=>exact k2.elim
 |_=>exact k2.elim
end
structure Snd(w:W)(g:Gc)(n:Nat):Prop where
 e:∀{c:Cc}{E:XK}{X:Cx} (O:XO w g c E X) {x:Expr}{ir:EV.E},cE n c x=some ir->PE X x (tE w g c E ir)
 bo:∀{c:Cc}{E:XK}{X:Cx} (O:XO w g c E X) {op:PySem.BoolOp}{vs:List Expr}{pos:Pos}{ir:EV.E},cBo n c op vs=some ir->PE X (.BoolOp op vs pos) (tE w g c E ir)/\esc ir=true
 o:∀{c:Cc}{E:XK}{X:Cx} (O:XO w g c E X) {x:Option Expr}{ir:OE},cO n c x=some ir->PO X x (tOe w g c E ir)
 es:∀{c:Cc}{E:XK}{X:Cx} (O:XO w g c E X) {x:List Expr}{ir:Es},cEs n c x=some ir->PA X x (tA w g c E ir)
 i:∀{c:Cc}{E:XK}{X:Cx} (O:XO w g c E X) {tg x:Expr}{ir:It},cI n c x=some ir->dQ ir tg=true->PI X tg x (tIt w g c E ir)
 t:∀{c:Cc}{E:XK}{X:Cx} (O:XO w g c E X) {x:Expr}{ir:T},cT n c x=some ir->PT X x (tT w g c E ir)
 ts:∀{c:Cc}{E:XK}{X:Cx} (O:XO w g c E X) {op:PySem.BoolOp}{vs:List Expr}{pos:Pos}{ir:T},cTs n c op vs=some ir->PW X (.BoolOp op vs pos) (tT w g c E ir)
 ifs:∀{c:Cc}{E:XK}{X:Cx} (O:XO w g c E X) {x:List Expr}{ir:T},dn n c x=some ir->PTs X x (tT w g c E ir)
section
variable{w:W}{g:Gc}{n:Nat}
theorem Snd.ifs_succ(ih:Snd w g n){c:Cc}{E:XK}{X:Cx}(O:XO w g c E X){x:List Expr}{ir:T}(h:dn (n+1) c x=some ir):PTs X x (tT w g c E ir):=by
 match x with
 | []=>
  simp only[dn,bB]at h;subst h;intro pins s σ H Q I ⟨τ,S,se,q⟩;exact wc pins s σ H Q I (q H (qf.refl _))
 | [t]=>simp only[dn]at h;exact sX (ih.t O h)
 |_::_::_=>simp[dn]at h
theorem Snd.bo_succ(ih:Snd w g n){c:Cc}{E:XK}{X:Cx}(O:XO w g c E X){op:PySem.BoolOp}{vs:List Expr}{pos:Pos}{ir:EV.E}(h:cBo (n+1) c op vs=some ir):PE X (.BoolOp op vs pos) (tE w g c E ir)/\esc ir=true:=by
 match vs with
 | []=>simp[cBo]at h
 | [a]=>
  simp only[cBo,aA,az]at h;obtain⟨ia,h1,h⟩:=h;split at h
  ·rename_i he
   cases h;exact⟨t_ (ih.e O h1),he⟩
  ·cases h
 |a::b::r=>
  simp only[cBo,aA,az]at h;obtain⟨ia,h1,ir',h2,h⟩:=h;obtain⟨r1,r2⟩:=ih.bo O (pos:=pos) h2;cases op with
  |And=>cases h;exact⟨uO (ih.e O h1) r1 r2,rfl⟩
  |Or=>cases h;exact⟨oD (ih.e O h1) r1 r2,rfl⟩
theorem Snd.o_succ(ih:Snd w g n){c:Cc}{E:XK}{X:Cx}(O:XO w g c E X){x:Option Expr}{ir:OE}(h:cO (n+1) c x=some ir):PO X x (tOe w g c E ir):=by
 cases x with
 |none=>simp only[cO,bB]at h;subst h;exact mi
 |some e=>
  simp only[cO,a9]at h;obtain⟨ie,h1,rfl⟩:=h;exact sx (ih.e O h1)
theorem Snd.es_succ(ih:Snd w g n){c:Cc}{E:XK}{X:Cx}(O:XO w g c E X){x:List Expr}{ir:Es}(h:cEs (n+1) c x=some ir):PA X x (tA w g c E ir):=by
 match x with
 | []=>simp only[cEs,bB]at h;subst h;exact wG
 |e::r=>
  have hs:=dk h e aM;simp only[cEs,hs,bJ,if_false,aA,az]at h;obtain⟨ie,h1,ir',h2,h⟩:=h;cases h;exact nE (ih.e O h1) (ih.es O h2) hs
theorem Snd.ts_succ(ih:Snd w g n){c:Cc}{E:XK}{X:Cx}(O:XO w g c E X){op:PySem.BoolOp}{vs:List Expr}{pos:Pos}{ir:T}(h:cTs (n+1) c op vs=some ir):PW X (.BoolOp op vs pos) (tT w g c E ir):=by
 match vs with
 | []=>simp[cTs]at h
 | [a]=>
  simp only[cTs]at h;cases op with
  |And=>exact rZ (ih.t O h)
  |Or=>exact rT (ih.t O h)
 |a::b::r=>
  simp only[cTs,aA,az]at h;obtain⟨ia,h1,ir',h2,h⟩:=h;cases op with
  |And=>cases h;exact oV (ih.t O h1) (ih.ts O h2)
  |Or=>cases h;exact vS (ih.t O h1) (ih.ts O h2)
theorem Snd.t_succ(ih:Snd w g n){c:Cc}{E:XK}{X:Cx}(O:XO w g c E X){x:Expr}{ir:T}(h:cT (n+1) c x=some ir):PT X x (tT w g c E ir):=by
 unfold cT at h;split at h
 ·simp only[a9]at h;obtain⟨ia,h1,rfl⟩:=h;exact vm (ih.t O h1)
 ·exact(ih.ts O h).pt
 ·cases h
 ·split at h
  ·simp only[aA,az]at h;obtain⟨ia,h1,ib,h2,h⟩:=h;split at h
   ·rename_i hs;cases h;exact sf O (ih.e O h1) (ih.e O h2) hs
   ·cases h
  ·simp only[aA,az]at h;obtain⟨ia,h1,ib,h2,id',h3,h⟩:=h;split at h
   ·rename_i hs
    simp only[aB]at hs;cases h;exact xb O (ih.e O h1) (ih.e O h2) (ih.e O h3) hs.2
   ·cases h
  ·simp only[aA,az]at h;obtain⟨ia,h1,ib,h2,id',h3,if',h4,h⟩:=h;split at h
   ·rename_i hs
    simp only[aB]at hs;cases h;exact pC O (ih.e O h1) (ih.e O h2) (ih.e O h3) (ih.e O h4) hs.2
   ·cases h
  ·cases h
 ·rename_i n1 n2 n3 n4
  simp only[a9]at h;obtain⟨ia,h1,rfl⟩:=h;refine vY O (ih.e O h1) λwhole=>?_
  cases x with
  |UnaryOp op a p=>cases op<;>first|rfl|exact(n1 _ _ rfl).elim
  |BoolOp op vs p=>exact(n2 _ _ _ rfl).elim
  |IfExp a b d p=>exact(n3 _ _ _ _ rfl).elim
  |Compare a ops bs p=>exact(n4 _ _ _ _ rfl).elim
  |_=>rfl
theorem Snd.i_succ(ih:Snd w g n){c:Cc}{E:XK}{X:Cx}(O:XO w g c E X){tg x:Expr}{ir:It}(h:cI (n+1) c x=some ir)(ht:dQ ir tg=true):PI X tg x (tIt w g c E ir):=by
 have sq:∀{x:Expr}{ir:It},(cE n c x).map It.seq=some ir->PI X tg x (tIt w g c E ir):=λ{x ir} h=>by
  simp only[a9]at h;obtain⟨ia,h1,rfl⟩:=h;exact uf O (ih.e O h1)
 have tup:isTup tg=true->∃es k p,tg=.Tuple es k p:=λh=>by cases tg<;>first|exact⟨_,_,_,rfl⟩|(simp[isTup]at h)
 unfold cI at h;split at h
 ·rename_i f p as q
  split at h
  ·exact sq h
  ·split at h
   ·rename_i hg
    split at h
    ·rename_i a
     split at h
     ·cases h
     ·rename_i hs
      simp only[a9]at h;obtain⟨ia,h1,rfl⟩:=h;exact wI O hg (ih.e O h1) (by simpa using hs)
    ·rename_i a b
     split at h
     ·cases h
     ·rename_i hs
      have hs:isStar a=false/\isStar b=false:=by simpa using hs
      simp only[aA,az]at h;obtain⟨ia,h1,ib,h2,h⟩:=h;cases h;exact pX O hg (ih.e O h1) (ih.e O h2) hs.1 hs.2
    ·cases h
   ·rename_i hg
    split at h
    ·rename_i a
     split at h
     ·cases h
     ·rename_i hs
      simp only[a9]at h;obtain⟨ia,h1,rfl⟩:=h;obtain⟨es,k,p',rfl⟩:=tup ht;exact oR O hg (ih.e O h1) (by simpa using hs)
    ·cases h
   ·rename_i hg
    split at h
    ·rename_i a b
     split at h
     ·cases h
     ·rename_i hs
      have hs:isStar a=false/\isStar b=false:=by simpa using hs
      simp only[aA,az]at h;obtain⟨ia,h1,ib,h2,h⟩:=h;cases h;obtain⟨es,k,p',rfl⟩:=tup ht;exact v7 O hg (ih.e O h1) (ih.e O h2) hs.1 hs.2
    ·cases h
   ·exact sq h
 ·exact sq h
end
section
variable{w:W}{g:Gc}{c:Cc}{E:XK}{X:Cx}{a:Expr}{ia:EV.E}{pos p2 p3 pos3:Pos}
end
theorem fc{x:Expr}{t:Str}(h:cJ x=some t):∃k p,x=.Constant (.str t) k p:=by
 unfold cJ at h;split at h
 ·split at h
  ·cases h;exact⟨_,_,rfl⟩
  ·cases h
 ·cases h
theorem fD{x a:Expr}(h:cL x=some a):∃p,x=.FormattedValue a (-1) none p:=by
 unfold cL at h;split at h
 ·split at h
  ·split at h
   ·rename_i e;cases h;subst e;exact⟨_,rfl⟩
   ·cases h
  ·cases h
 ·cases h
section
variable{w:W}{g:Gc}{c:Cc}{E:XK}{X:Cx}{a:Expr}{ia:EV.E}{pos p2 p3 pos3:Pos}
theorem o4{α:Type}{x:D}{f:Int->R α}{z:α}(h:iR x f=.ok z):∃i,x=.int i/\f i=.ok z:=by
 cases x<;>first|exact⟨_,rfl,h⟩|(cases (show R.no=R.ok z from h);done)
theorem kP{α:Type}{x:D}{f:Str->R α}{z:α}(h:sR x f=.ok z):∃i,x=.str i/\f i=.ok z:=by
 cases x<;>first|exact⟨_,rfl,h⟩|(cases (show R.no=R.ok z from h);done)
theorem pO{α:Type}{x:D}{f:Int->R α}{z:Str}(hf:∀i,f i≠.ex z):iR x f≠.ex z:=by
 cases x<;>first|exact hf _|exact bZ
theorem jk{α:Type}{x:D}{f:Str->R α}{z:Str}(hf:∀i,f i≠.ex z):sR x f≠.ex z:=by
 cases x<;>first|exact hf _|exact bZ
theorem gN{α:Type}{b:Prop} [Decidable b]{d:α}{z:Str}:(if b then R.ok d else .no)≠.ex z:=by
 split
 ·exact dm
 ·exact bZ
theorem ji{α:Type}{b:Bool}{x:R α}{d:α}(h:(if b=true then x else .no)=.ok d):b=true/\x=.ok d:=by
 cases b with
 |false=>cases h
 |true=>exact⟨rfl,h⟩
theorem nc{op:Operator}(h:o2 op=some .add):op=.Add:=by cases op<;>first|rfl|(cases h;done)
theorem tV{vs:List Expr}{a b:Expr}{t:Str}(h:lB vs=some (a,t,b)):∃k1 p1 p2 p3,vs=[.FormattedValue a (-1) none p1,.Constant (.str t) k1 p2,.FormattedValue b (-1) none p3]:=by
 cases vs with
 |nil=>cases h
 |cons x0 r=>cases r with
  |nil=>cases h
  |cons x1 r=>cases r with
   |nil=>cases h
   |cons x2 r=>cases r with
    |cons _ _=>cases h
    |nil=>
     have h:(match cL x0 with
      |some a=>match cJ x1 with
       |some t=>match cL x2 with
        |some b=>some (a,t,b)
        |none=>none
       |none=>none
      |none=>none)=some (a,t,b):=h
     cases e0:cL x0 with
     |none=>rw[e0]at h;cases h
     |some a'=>
      rw[e0]at h;cases e1:cJ x1 with
      |none=>rw[e1]at h;cases h
      |some t'=>
       rw[e1]at h;cases e2:cL x2 with
       |none=>rw[e2]at h;cases h
       |some b'=>
        rw[e2]at h;cases h;obtain⟨p1,rfl⟩:=fD e0;obtain⟨k1,p2,rfl⟩:=fc e1;obtain⟨p3,rfl⟩:=fD e2;exact⟨_,_,_,_,rfl⟩
theorem za.strs{H:Hp}{ds:List D}:∀{vs:List V}{ys:List Str},za g H ds vs->strs? ds=some ys->vs=ys.map V.str:=by
 induction ds with
 |nil=>intro vs ys h e;cases h;cases e;rfl
 |cons d ds ih=>
  intro vs ys h e;cases h with
  |cons h t=>cases d with
   |str i=>
    obtain⟨ms,e1,rfl⟩:=a9.mp (show (strs? ds).map (i :: ·)=some ys from e);have h1:=ih t e1;cases h;rw[h1];rfl
   |_=>cases (show none=some ys from e)
theorem xf(O:XO w g c E X){x:Str}(h:glob c x=some (.ty "str" none))(ha:PE X a (tE w g c E ia))(hs:isStar a=false):PE X (.Call (.Name x p2) [a] [] pos) (tE w g c E (.stri ia)):=by
 obtain⟨h1,h2,_⟩:=O.gm h;have hst:=qT (es:=[]) (env:=X.env) hs;refine PE.imp (eX pN (O.gl h) h1 h2 (zw ha b5 hst) (qW h).2.2.2 (qW h).2.2.1 hst) λσ H Q ⟨τ,S,se,k⟩=>?_
 simp only[qV,zd,qX,qY,zb,qU,qZ,ze,zc,ql,qB,qD,qx,qy,qm,qF,qo,qq,qE,qs,qJ,qk,qG,qM,qC,qr,qI,qH,qP,qt,qQ,qK,qN,qO,qL,qh,qp,qA,qu]at k;refine zg se k λda va H1 e1 p1 k1=>?_
 cases hm:cP da with
 |ex z=>exact absurd hm (pO λi=>gN)
 |no=>rw[hm]at k1;exact k1.elim
 |ok d=>
  rw[hm]at k1;obtain⟨i,rfl,q⟩:=o4 hm;obtain⟨q1,q2⟩:=ji q;cases q2;exact⟨i,by rw[p1.rb.int],gU q1,k1 _ _ (aR.of p1.same (.str _) rfl)⟩
theorem mE{op:Operator}{b:Expr}{ib:EV.E}(ho:op=.Add)(ha:PE X a (tE w g c E ia))(hb:PE X b (tE w g c E ib)):PE X (.BinOp a op b pos) (tE w g c E (.sadd ia ib)):=by
 subst ho;refine PE.imp (lE uS ha hb) λσ H Q ⟨τ,S,se,k⟩=>?_
 simp only[qV,zd,qX,qY,zb,qU,qZ,ze,zc,ql,qB,qD,qx,qy,qm,qF,qo,qq,qE,qs,qJ,qk,qG,qM,qC,qr,qI,qH,qP,qt,qQ,qK,qN,qO,qL,qh,qp,qA,qu]at k;refine zg se k λda va H1 e1 p1 k1=>?_
 refine zg (se.up p1.same) k1 λdb vb H2 e2 p2 k2=>?_
 cases hm:cQ da db with
 |ex z=>exact absurd hm (jk λi=>jk λj=>gN)
 |no=>rw[hm]at k2;exact k2.elim
 |ok d=>
  rw[hm]at k2;obtain⟨i,rfl,q⟩:=kP hm;obtain⟨j,rfl,q'⟩:=kP q;by_cases hz:i.length+j.length<=SZ
  ·rw[if_pos hz]at q';cases q';have va':va=.str i:=by cases p1.rb.rep;rfl
   have vb':vb=.str j:=by cases p2.rb.rep;rfl
   exact⟨i,j,va',vb',aS hz szl,k2 _ _ (aR.of (p1.same.trans p2.same) (.str _) rfl)⟩
  ·rw[if_neg hz]at q';cases q'
theorem rg(O:XO w g c E X){sep:Str}{kk}{pp ap cp:Pos}(ha:PE X a (tE w g c E ia))(hs:isStar a=false)(hl:(ap.endLine==cp.line)=true) :
  PE X (.Call (.Attribute (.Constant (.str sep) kk pp) "join" ap) [a] [] cp) (tE w g c E (.joi sep ia)):=by
 have hst:=qT (es:=[]) (env:=X.env) hs;refine PE.imp (fI (X:=X) (apos:=ap) (cpos:=cp) PySem.F.plainAttrs_str PySem.F.slot_str_join PySem.F.type_str_join sY iH (zw ha b5 hst) rfl (by rw[hst];rfl) hl hst rfl) λσ H Q ⟨τ,S,se,k⟩=>?_
 simp only[qV,zd,qX,qY,zb,qU,qZ,ze,zc,ql,qB,qD,qx,qy,qm,qF,qo,qq,qE,qs,qJ,qk,qG,qM,qC,qr,qI,qH,qP,qt,qQ,qK,qN,qO,qL,qh,qp,qA,qu]at k;refine⟨rfl,?_⟩;refine zg se k λda va H1 e1 p1 k1=>?_
 cases hm:dq sep da with
 |ex z=>exact absurd hm (gR λxs=>dZ λys=>gN)
 |no=>rw[hm]at k1;exact k1.elim
 |ok d=>
  rw[hm]at k1;obtain⟨xs,rfl,q⟩:=h_ hm;obtain⟨ys,e,q⟩:=gI q;obtain⟨q1,q2⟩:=ji q;cases q2;simp only[aB,decide_eq_true_eq]at q1;obtain⟨l,vs,rfl,z1,z2⟩:=p1.rb.lst;have z3:=z2.strs e;subst z3;exact⟨sep,l,ys,rfl,rfl,by rw[O.K];exact z1,q1.1,by lia,k1 _ _ (aR.of p1.same (.str _) rfl)⟩
theorem u_{b:Expr}{ib:EV.E}{t:Str}{k1}{p1 p3:Pos}(ha:PE X a (tE w g c E ia))(hb:PE X b (tE w g c E ib)) :
  PE X (.JoinedStr [.FormattedValue a (-1) none p1,.Constant (.str t) k1 p2,.FormattedValue b (-1) none p3] pos) (tE w g c E (.fsm ia t ib)):=by
 refine PE.imp (vD ha hb) λσ H Q ⟨τ,S,se,k⟩=>?_
 simp only[qV,zd,qX,qY,zb,qU,qZ,ze,zc,ql,qB,qD,qx,qy,qm,qF,qo,qq,qE,qs,qJ,qk,qG,qM,qC,qr,qI,qH,qP,qt,qQ,qK,qN,qO,qL,qh,qp,qA,qu]at k;refine zg se k λda va H1 e1 p1 k1=>?_
 cases da with
 |int i=>
  simp only[iR]at k1;cases hc:qi i&&decide (((Str.empty++zt i)++t).length<=SZ)with
  |false=>rw[hc]at k1;exact k1.elim
  |true=>
   rw[hc,if_pos rfl]at k1;simp only[aB,decide_eq_true_eq]at hc;refine⟨i,by rw[p1.rb.int],⟨gU hc.1,aS hc.2 szl⟩,zg (se.up p1.same) k1 λdb vb H2 e2 p2 k2=>?_⟩;cases db with
   |int j=>
    simp only at k2;cases hd:qi j&&decide ((bN i t j).length<=SZ)with
    |false=>rw[hd]at k2;exact k2.elim
    |true=>
     rw[hd,if_pos rfl]at k2;simp only[aB,decide_eq_true_eq]at hd;exact⟨j,by rw[p2.rb.int],⟨gU hd.1,aS hd.2 szl⟩,k2 _ _ (aR.of (p1.same.trans p2.same) (.str _) rfl)⟩
   |_=>exact k2.elim
 |_=>exact k1.elim
end
section
variable{w:W}{g:Gc}{n:Nat}
theorem Snd.call_name(ih:Snd w g n){c:Cc}{E:XK}{X:Cx}(O:XO w g c E X){f:Str}{p pos:Pos}{as:List Expr}{ir:EV.E}(h:cE (n+1) c (.Call (.Name f p) as [] pos)=some ir):PE X (.Call (.Name f p) as [] pos) (tE w g c E ir):=by
 unfold cE at h;dsimp only at h;split at h
 ·cases h
 ·split at h
  ·rename_i fr hg
   simp only[aA,az]at h;obtain⟨ies,h1,h⟩:=h;split at h
   ·rename_i hc
    simp only[aB,a_]at hc;cases h
    match as with
    | []=>simp at hc
    |e::es=>exact mB O hg (ih.es O h1) hc.1 (dk h1)
   ·split at h
    ·rename_i hc
     simp only[a_]at hc;cases h
     match as with
     | []=>simp at hc
     |e::es=>exact sF O hg (ih.es O h1) (dk h1)
    ·cases h
  ·rename_i b hg
   split at h
   ·rename_i a hs;cases hs
   simp only[aA,az]at h;obtain⟨ies,h1,h⟩:=h;split at h
   ·rename_i hc
    simp only[aB,a_,bL,beq_iff_eq]at hc;cases h
    match as with
    | []=>simp at hc
    |e::es=>exact pK O hg (by rcases hc.2 with (z|z)|z;exact .inl (O.calm z);exact .inr (.inl z);exact .inr (.inr z)) (ih.es O h1) (dk h1)
   ·cases h
  ·rename_i t b hg
   have plain:∀{ies:Es},cEs n c as=some ies->as.isEmpty=false->PE X (.Call (.Name f p) as [] pos) (tE w g c E (.bi b ies)):=λ{ies} h1 he=>by
    match as with
    | []=>simp at he
    |e::es=>exact tJ O hg (ih.es O h1) (dk h1)
   split at h
   ·rename_i y p' as' q
    split at h
    ·rename_i hr
     simp only[aB,beq_iff_eq]at hr;split at h
     ·rename_i hc
      simp only[aB,bL,beq_iff_eq]at hc;split at h
      ·rename_i a
       split at h
       ·cases h
       ·rename_i hs
        have hs:isStar a=false:=by simpa using hs
        simp only[aA,az]at h;obtain⟨ia,h1,h⟩:=h;cases h;exact kz O (O.calm hc.1) hg hr.2 (n9 (ih.e O h1) hs) (by intro z hz;simp at hz;rw[hz];exact hs) hc.2 rC
      ·rename_i a d
       split at h
       ·cases h
       ·rename_i hs
        have hs:isStar a=false/\isStar d=false:=by simpa using hs
        simp only[aA,az]at h;obtain⟨ia,h1,ib,h2,h⟩:=h;cases h;exact kz O (O.calm hc.1) hg hr.2 (zw (ih.e O h1) (zw (ih.e O h2) b5 (qT hs.2)) (qT hs.1)) (by intro z hz;simp at hz;rcases hz with rfl|rfl;exact hs.1;exact hs.2) hc.2 pj
      ·rename_i a d k
       split at h
       ·cases h
       ·rename_i hs
        have hs:(isStar a=false/\isStar d=false)/\isStar k=false:=by simpa[and_assoc]using hs
        simp only[aA,az]at h;obtain⟨ia,h1,ib,h2,id,h3,h⟩:=h;split at h
        ·rename_i ht
         have ht:=eq_of_beq ht;subst ht;cases h;exact oQ O (O.calm hc.1) hg hr.2 (ih.e O h1) (ih.e O h2) (ih.e O h3) hs.1.1 hs.1.2 hs.2
        ·cases h
      ·cases h
     ·cases h
    ·simp only[aA,az]at h;obtain⟨ies,h1,h⟩:=h;cases h;exact plain h1 rfl
   ·simp only[aA,az]at h;obtain⟨ies,h1,h⟩:=h;split at h
    ·rename_i hc
     cases h;exact plain h1 (by simpa using hc)
    ·cases h
  ·rename_i hg
   split at h
   ·rename_i a k
    split at h
    ·cases h
    ·rename_i hs
     simp only[aA,az]at h;obtain⟨ia,h1,cl,h2,h⟩:=h;cases h;exact uz O hg (ih.e O h1) h2 (by simpa using hs)
   ·cases h
  ·rename_i t hg
   split at h
   ·split at h
    ·rename_i hq
     simp only[aB,beq_iff_eq,a_]at hq;obtain⟨rfl,hst⟩:=hq;obtain⟨ia,h1,rfl⟩:=a9.mp h;exact xf O hg (ih.e O h1) hst
    ·cases h
   ·cases h
  ·cases h
theorem fK:∀{n:Nat}{c:Cc}{l:List Expr}{es:Es},cEs n c l=some es->l.length<=n
 | 0,_,_,_,h=>by simp[cEs]at h
 |n+1,_,[],_,_=>by simp
 |n+1,c,x::l,es,h=>by
  have hs:=dk h x aM;simp only[cEs,hs,bJ,if_false,aA,az]at h;obtain⟨_,_,r,hr,_⟩:=h;have:=fK hr
  simpa using this
theorem lA{c:Cc}{elt:Expr}{gs:List bI}{sc:aH}{p:Pos}{ir:EV.E}(h:cE (n+1) c (.ListComp elt gs sc p)=some ir) :
  ∃tgt it ifs iit itg it' ie,gs=[⟨tgt,it,ifs,0⟩]/\(c.calm=true/\zl it=true)/\(fB (λx=>c.nm.lookup x) c.N (zU sc.names) (eA c sc.names) sc=true/\(zU sc.names).Nodup)/\cI n c it=some iit/\cTg (bY c sc) tgt=some itg/\dn n (bY c sc) ifs=some it'/\cE n (bY c sc) elt=some ie/\(esc ie=true/\dQ iit tgt=true)/\ir=.comp iit (eA c sc.names) itg it' ie:=by
 unfold cE at h;dsimp only at h;split at h
 ·rename_i tgt it ifs asy
  split at h
  ·cases h
  ·rename_i hs
   have hs:(asy=0/\c.calm=true)/\zl it=true:=by simpa using hs
   obtain⟨⟨rfl,hs1⟩,hs2⟩:=hs;split at h
   ·cases h
   ·rename_i hk
    have hk:fB (λx=>c.nm.lookup x) c.N (zU sc.names) (eA c sc.names) sc=true/\(zU sc.names).Nodup:=by simpa using hk
    simp only[aA,az]at h;obtain⟨iit,h1,itg,h2,it',h3,ie,h4,h⟩:=h;split at h
    ·rename_i he
     simp only[aB]at he;cases h;exact⟨tgt,it,ifs,iit,itg,it',ie,rfl,⟨hs1,hs2⟩,hk,h1,h2,h3,h4,he,rfl⟩
    ·cases h
 ·cases h
theorem xg{vs:List Expr}{t0 t1 t2:Str}{a b:Expr}(h:gJ vs=some (t0,a,t1,b,t2)):∃k0 k1 k2 p0 p1 p2 p3 p4,vs=[.Constant (.str t0) k0 p0,.FormattedValue a (-1) none p1,.Constant (.str t1) k1 p2,.FormattedValue b (-1) none p3,.Constant (.str t2) k2 p4]/\(Str.empty++t0).length<=1000:=by
 unfold gJ at h;split at h
 ·simp only[aA,az]at h;obtain⟨u0,h0,u1,h1,u2,h2,u3,h3,u4,h4,h⟩:=h;split at h
  ·rename_i hz
   cases h;obtain⟨k0,p0,rfl⟩:=fc h0;obtain⟨p1,rfl⟩:=fD h1;obtain⟨k1,p2,rfl⟩:=fc h2;obtain⟨p3,rfl⟩:=fD h3;obtain⟨k2,p4,rfl⟩:=fc h4;exact⟨_,_,_,_,_,_,_,_,rfl,hz⟩
  ·cases h
 ·cases h
theorem Snd.e_succ(ih:Snd w g n)(hn:n<=100000){c:Cc}{E:XK}{X:Cx}(O:XO w g c E X){x:Expr}{ir:EV.E}(h:cE (n+1) c x=some ir):PE X x (tE w g c E ir):=by
 have h0:=h;unfold cE at h;split at h
 ·-- Name
  rename_i y p
  split at h
  ·rename_i i hl
   have:=gY (w:=w) (E:=E) (pos:=p) O hl;cases ho:c.own.contains y with
   |true=>rw[ho]at h this;cases h;exact this
   |false=>rw[ho]at h this;cases h;exact this
  ·split at h
   ·rename_i hg;cases h;exact ot O hg
   ·rename_i fr hg;cases h;exact p6 O hg
   ·cases h
 ·split at h
  ·cases h;exact fS uR λ_=>.int _
  ·cases h;exact fS jN λ_=>.bl _
  ·cases h;exact fS wB λ_=>.non
  ·cases h;exact fS iH λ_=>.str _
  ·cases h
 ·simp only[aA,az]at h;obtain⟨o,ho,ia,h1,ib,h2,h⟩:=h;split at h
  ·rename_i ht
   cases h;simp only[lh,aB,beq_iff_eq]at ht;rw[ht.1]at ho;exact mE (nc ho) (ih.e O h1) (ih.e O h2)
  ·cases h;exact oq O ho (ih.e O h1) (ih.e O h2)
 ·rename_i op a p
  simp only[aA,az]at h;obtain⟨ia,h1,h⟩:=h;cases op with
  |USub=>cases h;exact sG (ih.e O h1)
  |Invert=>cases h;exact uK (ih.e O h1)
  |Not=>cases h;exact nW (ih.e O h1)
  |UAdd=>cases h
 ·exact(ih.bo O h).1
 ·split at h
  ·simp only[aA,az]at h;obtain⟨ia,h1,ib,h2,h⟩:=h;split at h
   ·rename_i hs;cases h;exact sd O (ih.e O h1) (ih.e O h2) hs
   ·cases h
  ·simp only[aA,az]at h;obtain⟨ia,h1,ib,h2,id',h3,h⟩:=h;split at h
   ·rename_i hs
    simp only[aB]at hs;cases h;exact sM O (ih.e O h1) (ih.e O h2) (ih.e O h3) hs.2
   ·cases h
  ·simp only[aA,az]at h;obtain⟨ia,h1,ib,h2,id',h3,if',h4,h⟩:=h;split at h
   ·rename_i hs
    simp only[aB]at hs;cases h;exact vI O (ih.e O h1) (ih.e O h2) (ih.e O h3) (ih.e O h4) hs.2
   ·cases h
  ·cases h
 ·split at h
  ·rename_i ks vs _ hk
   simp only[aB,List.isEmpty_iff]at hk;obtain⟨rfl,rfl⟩:=hk;cases h;exact p5
  ·cases h
 ·split at h
  ·rename_i hf
   simp only[aA,az]at h;obtain⟨ia,h1,ib,h2,h⟩:=h;cases h;obtain⟨k0,k1,k2,p0,p1,p2,p3,p4,rfl,hz⟩:=xg hf;exact nO hz (ih.e O h1) (ih.e O h2)
  ·split at h
   ·rename_i hf
    simp only[aA,az]at h;obtain⟨ia,h1,ib,h2,h⟩:=h;cases h;obtain⟨k1,p1,p2,p3,rfl⟩:=tV hf;exact u_ (ih.e O h1) (ih.e O h2)
   ·cases h
 ·simp only[aA,az]at h;obtain⟨it,h1,ia,h2,ib,h3,h⟩:=h;split at h
  ·rename_i hs
   simp only[aB]at hs;cases h;exact sE (ih.t O h1) (ih.e O h2) (ih.e O h3) hs.1 hs.2
  ·cases h
 ·simp only[aA,az]at h;obtain⟨ies,h1,h⟩:=h;split at h
  ·rename_i hs;cases h
   exact xh (ih.es O h1) hs λτ ds e=>by rw[fX h1 e];exact aS (fK h1) hn
  ·cases h
 ·simp only[aA,az]at h;obtain⟨ies,h1,h⟩:=h;split at h
  ·rename_i hs;cases h
   exact wx (ih.es O h1) hs λτ ds e=>by rw[fX h1 e];exact aS (fK h1) hn
  ·cases h
 ·split at h
  ·rename_i lo hi st' sp
   split at h
   ·cases h
   ·simp only[aA,az]at h;obtain⟨ia,h1,il,h2,ih',h3,h⟩:=h;cases h;exact pd O (ih.e O h1) (ih.o O h2) (ih.o O h3)
  ·split at h
   ·cases h
   ·rename_i hs
    simp only[aA,az]at h;obtain⟨ia,h1,ib,h2,h⟩:=h;cases h;exact uC O (ih.e O h1) (ih.e O h2) (by simpa using hs)
 ·-- ListComp
  rename_i elt gs sc p
  obtain⟨tgt,it,ifs,iit,itg,it',ie,rfl,hs,hk,h1,h2,h3,h4,he,rfl⟩:=lA h0;have hS:zR X (zU sc.names) (eA c sc.names) sc:=zR.of (by
   have e1:(λx=>c.nm.lookup x)=X.env.kindOf:=by funext x;show _=X.env.scope.names.lookup x;rw[O.nm]
   rw[<-e1,O.N];exact hk.1)
  refine mX O (O.calm hs.1) hS hk.2 (ih.i O h1 he.2) (λcl C s₀ H₀ fp=>?_) he.1 hs.2;have OY:=O.comp hS.kind hk.2 cl C s₀ H₀ fp;exact⟨fU OY h2,ih.ifs OY h3,ih.e OY h4⟩
 ·split at h
  ·split at h
   ·exact ih.call_name O h0
   ·split at h
    ·rename_i hm
     cases h;exact wC O hm
    ·split at h
     ·split at h
      ·rename_i sep hx
       split at h
       ·rename_i hq
        simp only[aB,beq_iff_eq,a_]at hq;obtain⟨⟨rfl,hst⟩,hln⟩:=hq;obtain⟨ia,h1,rfl⟩:=a9.mp h;obtain⟨kk,pp,rfl⟩:=fc hx;exact rg O (ih.e O h1) hst (beq_iff_eq.mpr hln)
       ·cases h
      ·split at h
       ·cases h
       ·rename_i hc
        simp only[bL,a_,not_or,Bool.not_eq_true,Bool.not_eq_false]at hc;simp only[aA,az]at h;obtain⟨io,h1,ia,h2,h⟩:=h;split at h
        ·cases h;obtain⟨⟨⟨c1,c2⟩,c3⟩,c4⟩:=hc;have c3:=eq_of_beq c3;subst c3;exact tf O c1 (ih.e O h1) (ih.e O h2) c2 c4
        ·cases h
     ·cases h
   ·cases h
  ·cases h
 ·cases h
theorem tB:Snd w g 0:=⟨λ_ _ _ h=>(by cases h),λ_ _ _ _ _ h=>by simp[cBo]at h,λ_ _ _ h=>by simp[cO]at h,λ_ _ _ h=>by simp[cEs]at h,λ_ _ _ _ h=>by simp[cI]at h,λ_ _ _ h=>by simp[cT]at h,λ_ _ _ _ _ h=>by simp[cTs]at h,λ_ _ _ h=>by simp[dn]at h⟩
theorem snd:∀n,n<=100000->Snd w g n
 | 0,_=>tB
 |n+1,h=>
  have ih:=snd n (Nat.le_of_succ_le h)
  ⟨λO _ _ q=>ih.e_succ (Nat.le_of_succ_le h) O q,λO _ _ _ _ q=>ih.bo_succ O q,λO _ _ q=>ih.o_succ O q,λO _ _ q=>ih.es_succ O q,λO _ _ _ q t=>ih.i_succ O q t,λO _ _ q=>ih.t_succ O q,λO _ _ _ _ q=>ih.ts_succ O q,λO _ _ q=>ih.ifs_succ O q⟩
end
noncomputable def zr(c:Cc)(i:Nat):Prop:=∃x,c.N[i]? = some x/\c.own.contains x=true
structure SS(g:Gc)(c:Cc)(H0:Hp)(B:Sh)(τ:Env)(σ:L2.St)(H:Hp)(S:Sh):Prop where
 se:SE g c τ σ H S
 lenN:τ.length=c.N.length
 same:qf H0 H
 sub0:Sub B H0
 hd:∀a,S.h a=(B.h a||S.o a)
 new:∀a,S.o a=true->H0 a=none
 own:∀i d,zr c i->τ[i]? = some (some d)->∃a vs ds,σ[i]? = some (some (.ref a))/\S.o a=true/\d=.lst ds/\H a=some (.lst vs)/\za g (hid H S) ds vs
 inj:∀i j d e a,zr c i->zr c j->τ[i]? = some (some d)->τ[j]? = some (some e)->σ[i]? = some (some (.ref a))->σ[j]? = some (some (.ref a))->i=j
 frz:c.frz=true->(∀i,zr c i->σ[i]? = B.z[i]?)/\qf B.y H
section
variable{g:Gc}{c:Cc}{H0:Hp}{B:Sh}{τ:Env}{σ:L2.St}{H H':Hp}{S:Sh}
theorem SS.up(s:SS g c H0 B τ σ H S)(e:qf H H'):SS g c H0 B τ σ H' S:=
 ⟨s.se.up e,s.lenN,s.same.trans e,s.sub0,s.hd,s.new,λi d hi h=>let ⟨a,vs,ds,h1,h2,h3,h4,h5⟩:=s.own i d hi h;⟨a,vs,ds,h1,h2,h3,e _ _ h4,h5.mono (zf e)⟩,s.inj,λz=>⟨(s.frz z).1,(s.frz z).2.trans e⟩⟩
theorem SS.set{i:Nat}{d:D}{v:V}(s:SS g c H0 B τ σ H S)(hi:¬ zr c i)(r:Rep g (hid H S) d v):SS g c H0 B (τ.set i (some d)) (σ.set i (some v)) H S:=by
 refine⟨s.se.set r,by simp[s.lenN],s.same,s.sub0,s.hd,s.new,λj e hj h=>?_,λj k e f a hj hk h1 h2 h3 h4=>?_,λz=>⟨λj hj=>?_,(s.frz z).2⟩⟩
 ·have hij:i≠j:=λz=>hi (z▸hj)
  rw[List.getElem?_set_ne hij]at h ⊢;exact s.own j e hj h
 ·have hij:i≠j:=λz=>hi (z▸hj)
  have hik:i≠k:=λz=>hi (z▸hk)
  rw[List.getElem?_set_ne hij]at h1 h3;rw[List.getElem?_set_ne hik]at h2 h4;exact s.inj j k e f a hj hk h1 h2 h3 h4
 ·rw[List.getElem?_set_ne (λz:i=j=>hi (z▸hj))];exact(s.frz z).1 j hj
theorem SS.setAll{is:List Nat}:∀{ds:List D}{vs:List V}{τ τ':Env}{σ:L2.St}{Q:L2.St->Hp->Prop},SS g c H0 B τ σ H S->(∀i∈is,¬ zr c i)->za g (hid H S) ds vs->EV.setAll is ds τ=.ok τ'->(∀σ',SS g c H0 B τ' σ' H S->Q σ' H)->fw is vs σ H Q:=by
 induction is with
 |nil=>
  intro ds vs τ τ' σ Q se _ r h k;cases r with
  |nil=>cases (show R.ok τ=R.ok τ' from h);exact⟨rfl,k σ se⟩
  |cons _ _=>cases (show R.no=R.ok τ' from h)
 |cons i is ih=>
  intro ds vs τ τ' σ Q se ho r h k;cases r with
  |nil=>cases (show R.no=R.ok τ' from h)
  |cons r rs=>exact⟨_,_,rfl,ih (se.set (ho i aM) r) (λj hj=>ho j (aL _ hj)) rs h k⟩
theorem oW{tg:Tg}(h:eZ c tg):match tg with | .nm i=>¬ zr c i | .tp is=>∀i∈is,¬ zr c i:=by
 cases tg with
 |nm i=>rintro⟨x,h1,h2⟩;rw[h x h1]at h2;cases h2
 |tp is=>rintro i hi ⟨x,h1,h2⟩;rw[h i hi x h1]at h2;cases h2
theorem SS.store{X:Cx}(O:X.K=g.K){tg:Tg}{d:D}{v:V}{τ':Env}{Q:L2.St->Hp->Prop}(s:SS g c H0 B τ σ H S)(hf:eZ c tg)(r:Rep g (hid H S) d v)(h:EV.store tg d τ=.ok τ')(k:∀σ',SS g c H0 B τ' σ' H S->Q σ' H):gT X.K tg v σ H Q:=by
 have ho:=oW hf;cases tg with
 |nm i=>
  simp only[EV.store,R.ok.injEq]at h;subst h;exact k _ (s.set ho r)
 |tp is=>
  cases d with
  |tup ds=>
   simp only[EV.store]at h;split at h
   ·rename_i hl
    cases r with
    |tup h1 r1=>exact⟨_,_,rfl,by rw[O];exact de cg h1,by rw[<-r1.length];exact hl,s.setAll ho r1 h k⟩
   ·cases h
  |_=>simp[EV.store]at h
noncomputable def l5(S:Sh)(a:Addr):Sh:=⟨λb=>S.o b||b==a,λb=>S.h b||b==a,S.z,S.y⟩
theorem SS.setOwn{i:Nat}{d:D}{v:V}(s:SS g c H0 B τ σ H S)(hz:c.frz=false)(hi:zr c i)(hlt:i<τ.length)(e:qf H H')(f:Fr g H S H' d v):∃S',SS g c H0 B (τ.set i (some d)) (σ.set i (some v)) H' S'/\qf (hid H S) (hid H' S'):=by
 obtain⟨a,vs,ds,rfl,rfl,h1,h2,h3⟩:=f;have up:qf (hid H S) (hid H' (l5 S a)):=λb o hb=>by
  obtain⟨z1,z2⟩:=bx.mp hb;refine bx.mpr ⟨?_,e _ _ z2⟩;show (S.h b||b==a)=false;rw[z1]
  simpa using λz:b=a=>by rw[z,h1]at z2;cases z2
 have hlt':i<σ.length:=by rw[<-s.se.len];exact hlt
 refine⟨l5 S a,⟨⟨by simp[s.se.len],λj e' hj=>?_,λb hb n=>?_⟩,by simp[s.lenN],s.same.trans e,s.sub0,λb=>?_,λb hb=>?_,λj e' hj h=>?_,λj k e1 e2 b hj hk q1 q2 q3 q4=>?_,λz=>by rw[hz]at z;cases z⟩,up⟩
 ·by_cases hij:i=j
  ·subst hij;simp[hlt]at hj;subst hj;refine⟨.ref a,by simp[hlt'],.inr ⟨a,vs,ds,by show (S.o a||a==a)=true;simp,rfl,rfl,h2,h3⟩,λx hx hn=>?_⟩;obtain⟨y,hy1,hy2⟩:=hi;rw[hy1]at hx;cases hx;rw[hn]at hy2;cases hy2
  ·rw[List.getElem?_set_ne hij]at hj ⊢;obtain⟨u,z1,z2,z3⟩:=s.se.val j e' hj;refine⟨u,z1,?_,λx hx hn=>(z3 x hx hn).mono up⟩;rcases z2 with z2|⟨a',vs',ds',y1,y2,y3,y4,y5⟩
   ·exact .inl (z2.mono up)
   ·exact .inr ⟨a',vs',ds',by show (S.o a'||a'==a)=true;rw[y1];rfl,y2,y3,e _ _ y4,y5.mono up⟩
 ·have hb:(S.h b||b==a)=true\/(S.o b||b==a)=true:=hb;by_cases hba:b=a
  ·rw[hba,h2]at n;cases n
  ·have:S.h b=true\/S.o b=true:=by
    rcases hb with z|z
    ·exact .inl (by simpa[hba]using z)
    ·exact .inr (by simpa[hba]using z)
   exact(s.se.sub.same e) b this n
 ·show (S.h b||b==a)=(B.h b||(S.o b||b==a))
  rw[s.hd b,Bool.or_assoc]
 ·have hb:(S.o b||b==a)=true:=hb;by_cases hba:b=a
  ·rw[hba];exact s.same.free h1
  ·exact s.new b (by simpa[hba]using hb)
 ·by_cases hij:i=j
  ·subst hij;simp[hlt]at h;subst h;exact⟨a,vs,ds,by simp[hlt'],by show (S.o a||a==a)=true;simp,rfl,h2,h3⟩
  ·rw[List.getElem?_set_ne hij]at h ⊢;obtain⟨a',vs',ds',y1,y2,y3,y4,y5⟩:=s.own j e' hj h;exact⟨a',vs',ds',y1,by show (S.o a'||a'==a)=true;rw[y2];rfl,y3,e _ _ y4,y5.mono up⟩
 ·have other:∀j e1 b,i≠j->zr c j->τ[j]? = some (some e1)->σ[j]? = some (some (.ref b))->b≠a:=λj e1 b hij hj q1 q3 z=>by
   obtain⟨a',vs',ds',y1,y2,y3,y4,y5⟩:=s.own j e1 hj q1;rw[q3]at y1;cases y1;rw[z,h1]at y4;cases y4
  by_cases hij:i=j
  ·by_cases hik:i=k
   ·rw[<-hij,<-hik]
   ·subst hij;rw[List.getElem?_set_ne hik]at q2 q4;have q3':b=a:=by
     have:(σ.set i (some (.ref a)))[i]? = some (some (.ref a)):=by simp[hlt']
     rw[this]at q3;cases q3;rfl
    exact absurd q3' (other k e2 b hik hk q2 q4)
  ·by_cases hik:i=k
   ·subst hik;rw[List.getElem?_set_ne hij]at q1 q3;have q4':b=a:=by
     have:(σ.set i (some (.ref a)))[i]? = some (some (.ref a)):=by simp[hlt']
     rw[this]at q4;cases q4;rfl
    exact absurd q4' (other j e1 b hij hj q1 q3)
   ·rw[List.getElem?_set_ne hij]at q1 q3;rw[List.getElem?_set_ne hik]at q2 q4;exact s.inj j k e1 e2 b hj hk q1 q2 q3 q4
theorem SS.change{i:Nat}{a:Addr}{d0:D}{vs:List V}{ds:List D}(s:SS g c H0 B τ σ H S)(hz:c.frz=false)(hi:zr c i)(h0:τ[i]? = some (some d0))(ha:σ[i]? = some (some (.ref a)))(r:za g (hid H S) ds vs):SS g c H0 B (τ.set i (some (.lst ds))) σ (upd H a (.lst vs)) S/\qf (hid H S) (hid (upd H a (.lst vs)) S):=by
 have hlt:i<τ.length:=(List.getElem?_eq_some_iff.mp h0).1;obtain⟨a',vs0,ds0,y1,y2,y3,y4,y5⟩:=s.own i d0 hi h0;rw[ha]at y1;cases y1;have hh:S.h a=true:=by rw[s.hd,y2,Bool.or_true]
 have he:hid (upd H a (.lst vs)) S=hid H S:=ft hh;have other:∀j e,i≠j->zr c j->τ[j]? = some (some e)->∀b,σ[j]? = some (some (.ref b))->b≠a:=λj e hij hj h b hb z=>by
  subst z;exact hij (s.inj i j d0 e b hi hj h0 h ha hb)
 refine⟨⟨⟨by simp[s.se.len],λj e hj=>?_,λb hb n=>?_⟩,by simp[s.lenN],λb o hb=>?_,s.sub0,s.hd,s.new,λj e hj h=>?_,λj k e1 e2 b hj hk q1 q2 q3 q4=>?_,λz=>by rw[hz]at z;cases z⟩,by rw[he];exact qf.refl _⟩
 ·by_cases hij:i=j
  ·subst hij;simp[hlt]at hj;subst hj;refine⟨.ref a,ha,.inr ⟨a,vs,ds,y2,rfl,rfl,zm,by rw[he];exact r⟩,λx hx hn=>?_⟩;obtain⟨y,hy1,hy2⟩:=hi;rw[hy1]at hx;cases hx;rw[hn]at hy2;cases hy2
  ·rw[List.getElem?_set_ne hij]at hj;obtain⟨u,z1,z2,z3⟩:=s.se.val j e hj;by_cases ho:zr c j
   ·obtain⟨b,ws,es,w1,w2,w3,w4,w5⟩:=s.own j e ho hj;rw[z1]at w1;cases w1;refine⟨_,z1,.inr ⟨b,ws,es,w2,rfl,w3,by rw[qg (other j e hij ho hj b z1)];exact w4,by rw[he];exact w5⟩,λx hx hn=>?_⟩;obtain⟨y,hy1,hy2⟩:=ho;rw[hy1]at hx;cases hx;rw[hn]at hy2;cases hy2
   ·have st:Rep g (hid H S) e u:=by
     cases q:c.N[j]? with
     |some x=>
      refine z3 x q ?_;cases q2:c.own.contains x with
      |false=>rfl
      |true=>exact absurd ⟨x,q,q2⟩ ho
     |none=>
      have h1:=(List.getElem?_eq_some_iff.mp hj).1;have h2:=List.getElem?_eq_none_iff.mp q;have h3:=s.lenN;lia
    exact⟨u,z1,.inl (by rw[he];exact st),λ_ _ _=>by rw[he];exact st⟩
 ·by_cases hba:b=a
  ·subst hba;rw[zm]at n;cases n
  ·rw[qg hba]at n;exact s.se.sub b hb n
 ·by_cases hba:b=a
  ·subst hba;rw[s.new b y2]at hb;cases hb
  ·rw[qg hba];exact s.same _ _ hb
 ·by_cases hij:i=j
  ·subst hij;simp[hlt]at h;subst h;exact⟨a,vs,ds,ha,y2,rfl,zm,by rw[he];exact r⟩
  ·rw[List.getElem?_set_ne hij]at h;obtain⟨b,ws,es,w1,w2,w3,w4,w5⟩:=s.own j e hj h;exact⟨b,ws,es,w1,w2,w3,by rw[qg (other j e hij hj h b w1)];exact w4,by rw[he];exact w5⟩
 ·have f:∀k e,(τ.set i (some (.lst ds)))[k]? = some (some e)->∃e',τ[k]? = some (some e'):=λk e h=>by
   by_cases hik:i=k
   ·subst hik;exact⟨d0,h0⟩
   ·rw[List.getElem?_set_ne hik]at h;exact⟨e,h⟩
  obtain⟨e1',q1'⟩:=f j e1 q1;obtain⟨e2',q2'⟩:=f k e2 q2;exact s.inj j k e1' e2' b hj hk q1' q2' q3 q4
end
noncomputable def bz(g:Gc)(c:Cc)(E:XK)(fr:Bool)(H0:Hp)(B:Sh)(H:Hp)(S:Sh)(D:Ends):O->Prop
 | .nx τ'=>∀σ' H' S',SS g c H0 B τ' σ' H' S'->qf (hid H S) (hid H' S')->D.nx σ' H'
 | .bk τ'=>∀σ' H' S',SS g c H0 B τ' σ' H' S'->qf (hid H S) (hid H' S')->D.bk σ' H'
 | .ct τ'=>∀σ' H' S',SS g c H0 B τ' σ' H' S'->qf (hid H S) (hid H' S')->D.ct σ' H'
 | .rt d=>∀v H',qf H0 H'->Rep g (hid H' B) d v->(fr=true->Fr g H0 B H' d v)->D.rt v H'
 | .ex k=>∀H' C,qf H0 H'->g.clA k=some C->E (.ref C) none H'
 | .no=>False
section
variable(w:W)(g:Gc)(c:Cc)(E:XK)(fr:Bool)
noncomputable def tS(s:EV.S):TS:=λD σ H=>∃H0 B τ S,SS g c H0 B τ σ H S/\bz g c E fr H0 B H S D (evS w s τ)
noncomputable def tSs(s:Ss):TS:=λD σ H=>∃H0 B τ S,SS g c H0 B τ σ H S/\bz g c E fr H0 B H S D (qe w s τ)
end
structure XS(w:W)(g:Gc)(c:Cc)(E:XK)(X:Cx):Prop extends XO w g c E X where
 thr:c.thr=true->Throws X E
 exc:∀x C,c.G.lookup x=some .exc->g.clA x=some C->iP g.K C
 cat:∀k x,w.cat k x=true->∀C D,g.clA k=some C->g.clA x=some D->bj g.K (.ref C) (.ref D)=some true
 frm:X.ex=[]/\X.stack=X.env::X.outer/\X.env.frame=some X.env.locals
 gh:∀x k,c.GH.lookup x=some k->k≠.exc/\∀v,GM w g X.prog X.w X.mg X.base (X.A.mark v) false x k
section
variable{w:W}{g:Gc}{c:Cc}{E:XK}{fr:Bool}{X:Cx}{H0:Hp}{B:Sh}{τ:Env}{σ:L2.St}{H H':Hp}{S:Sh}{Ed:Ends}
theorem bz.up{o:O}{S':Sh}(h:bz g c E fr H0 B H S Ed o)(e:qf (hid H S) (hid H' S')):bz g c E fr H0 B H' S' Ed o:=by
 cases o with
 |nx t=>exact λσ' H2 S2 s e2=>h σ' H2 S2 s (e.trans e2)
 |bk t=>exact λσ' H2 S2 s e2=>h σ' H2 S2 s (e.trans e2)
 |ct t=>exact λσ' H2 S2 s e2=>h σ' H2 S2 s (e.trans e2)
 |rt d=>exact h
 |ex k=>exact h
 |no=>exact h
theorem s_e{e:EV.E}{f:D->O}{Q:VK}(ss:SS g c H0 B τ σ H S)(h:bz g c E fr H0 B H S Ed ((evE w e τ).out f))(k:∀d v H',evE w e τ=.ok d->aR g c e S H d v H'->bz g c E fr H0 B H S Ed (f d)->Q v H'):tE w g c E e σ H Q:=by
 refine⟨τ,S,ss.se,?_⟩;cases q:evE w e τ with
 |ok d=>rw[q]at h;exact λv H' p=>k d v H' q p h
 |ex x=>rw[q]at h;exact λH' C s hc=>h H' C (ss.same.trans s) hc
 |no=>rw[q]at h;exact h
theorem s_t{t:T}{f:Bool->O}{Q:Bool->Hp->Prop}(ss:SS g c H0 B τ σ H S)(h:bz g c E fr H0 B H S Ed ((evT w t τ).out f))(k:∀b H',evT w t τ=.ok b->qf H H'->bz g c E fr H0 B H S Ed (f b)->Q b H'):tT w g c E t σ H Q:=by
 refine⟨τ,S,ss.se,?_⟩;cases q:evT w t τ with
 |ok d=>rw[q]at h;exact λH' p=>k d H' q p h
 |ex x=>rw[q]at h;exact λH' C s hc=>h H' C (ss.same.trans s) hc
 |no=>rw[q]at h;exact h
theorem s_a{es:Es}{f:List D->O}{Q:List V->Hp->Prop}(ss:SS g c H0 B τ σ H S)(h:bz g c E fr H0 B H S Ed ((zj w es τ).out f))(k:∀ds vs H',zj w es τ=.ok ds->qf H H'->dA g H' S ds vs->bz g c E fr H0 B H S Ed (f ds)->Q vs H'):tA w g c E es σ H Q:=by
 refine⟨τ,S,ss.se,?_⟩;cases q:zj w es τ with
 |ok d=>rw[q]at h;exact λvs H' p r _=>k d vs H' q p r h
 |ex x=>rw[q]at h;exact λH' C s hc=>h H' C (ss.same.trans s) hc
 |no=>rw[q]at h;exact h
theorem lW(ss:SS g c H0 B τ σ H S){b:Addr}(h:S.h b=false):B.h b=false:=by
 have:=ss.hd b;rw[h]at this;cases q:B.h b with
 |false=>rfl
 |true=>rw[q]at this;cases this
theorem ur(ss:SS g c H0 B τ σ H S):qf (hid H' S) (hid H' B):=λb o h=>by
 obtain⟨z1,z2⟩:=bx.mp h;exact bx.mpr ⟨lW ss z1,z2⟩
theorem lF:∀{is:List Nat}{ds:List EV.D}{τ:Env}{x:Str},setAll is ds τ≠.ex x
 | [],[],_,_,h=>by cases h
 | [],_::_,_,_,h=>by cases h
 |_::_,[],_,_,h=>by cases h
 |i::is,d::ds,τ,x,h=>by simp only[setAll]at h;exact lF h
theorem wH{pos:Pos}:PS X (.Pass pos) (tS w g c E fr .pass):=PS.imp o8 λD σ H ⟨H0,B,τ,S,ss,h⟩=>h σ H S ss (qf.refl _)
theorem vC{pos:Pos}:PS X (.Break pos) (tS w g c E fr .brk):=PS.imp nR λD σ H ⟨H0,B,τ,S,ss,h⟩=>h σ H S ss (qf.refl _)
theorem nu{pos:Pos}:PS X (.Continue pos) (tS w g c E fr .cnt):=PS.imp rB λD σ H ⟨H0,B,τ,S,ss,h⟩=>h σ H S ss (qf.refl _)
theorem fE{e:Expr}{t:Option Expr}{l:Nat}{env:PySem.Env}(h:cV e=false):swapsWith e t l env=pure false:=by
 cases e<;>first|rfl|(simp[cV]at h)
theorem pT{e:Expr}{ie:EV.E}{pos:Pos}(he:PE X e (tE w g c E ie))(hc:cV e=false):PS X (.Expr e pos) (tS w g c E fr (.exp ie)):=
 PS.imp (lH he (fE hc)) λD σ H ⟨H0,B,τ,S,ss,h⟩=>by
  simp only[bM,zY,bS,zW,zk,zZ,zV,zQ,bR,zE,zB,zL,zI,zN,zM,zJ,zO,zH]at h;exact s_e ss h λd v H' _ p k=>k σ H' S (ss.up p.same) (zf p.same)
theorem nN{pos:Pos}(hf:fr=false):PS X (.Return none pos) (tS w g c E fr .retN):=PS.imp vF λD σ H ⟨H0,B,τ,S,ss,h⟩=>h _ _ ss.same .non (by rw[hf];intro z;cases z)
theorem gH(ss:SS g c H0 B τ σ H S){a:Addr}{vs:List V}{ds:List EV.D}(h1:H0 a=none)(h2:H' a=some (.lst vs))(h3:za g (hid H' (zT S a)) ds vs):Rep g (hid H' B) (.lst ds) (.ref a)/\Fr g H0 B H' (.lst ds) (.ref a):=by
 have up:qf (hid H' (zT S a)) (hid H' (zT B a)):=λb o hb=>by
  obtain⟨z1,z2⟩:=bx.mp hb;refine bx.mpr ⟨?_,z2⟩;have z1:(S.h b||b==a)=false:=z1;simp only[Bool.or_eq_false_iff]at z1;show (B.h b||b==a)=false;rw[lW ss z1.1,z1.2];rfl
 exact⟨.lst (SqL.of (bx.mpr ⟨ss.sub0.free h1,h2⟩)) (h3.mono (up.trans j9)),⟨a,vs,ds,rfl,rfl,h1,h2,h3.mono up⟩⟩
theorem jv(ss:SS g c H0 B τ σ H S){a:Addr}{vs:List V}{ds:List EV.D}(y1:S.o a=true)(y3:za g (hid H' S) ds vs):za g (hid H' (zT S a)) ds vs:=y3.mono λb o hb=>by
 have hh:S.h a=true:=by rw[ss.hd,y1,Bool.or_true]
 obtain⟨z1,z2⟩:=bx.mp hb;refine bx.mpr ⟨?_,z2⟩;show (S.h b||b==a)=false;rw[z1]
 simpa using λz:b=a=>by rw[z,hh]at z1;cases z1
theorem lG{e:Expr}{ie:EV.E}{pos:Pos}(he:PE X e (tE w g c E ie))(hf:fr=true->fresh c ie=true):PS X (.Return (some e) pos) (tS w g c E fr (.ret ie)):=
 PS.imp (jS he) λD σ H ⟨H0,B,τ,S,ss,h⟩=>by
  simp only[bM,zY,bS,zW,zk,zZ,zV,zQ,bR,zE,zB,zL,zI,zN,zM,zJ,zO,zH]at h;refine s_e ss h λd v H' _ p k=>?_
  have k:∀v H',qf H0 H'->Rep g (hid H' B) d v->(fr=true->Fr g H0 B H' d v)->D.rt v H':=k;have s1:=ss.up p.same;by_cases hz:fr=true
  ·obtain⟨a,vs,ds,rfl,rfl,h1,h2,h3⟩:=p.fr (hf hz);obtain⟨r1,r2⟩:=gH (H':=H') ss (ss.same.free h1) h2 h3;exact k _ H' s1.same r1 λ_=>r2
  ·rcases p.rb with r|⟨a,vs,ds,y1,rfl,rfl,y2,y3⟩
   ·exact k v H' s1.same (r.mono (ur ss)) λz=>absurd z hz
   ·obtain⟨r1,r2⟩:=gH (H':=H') ss (ss.new a y1) y2 (jv ss y1 y3);exact k _ H' s1.same r1 λ_=>r2
theorem nD(O:XO w g c E X){x:Str}{i:Nat}{p pos:Pos}(h:loc c x=some i)(ho:c.own.contains x=true):PS X (.Return (some (.Name x p)) pos) (tS w g c E fr (.ret (.own i))):=by
 obtain⟨h1,h2,h3,h4⟩:=cU h;refine PS.imp (jS (fH (i:=i) (by rw[O.N];exact h1) (by unfold ez;rw[O.nm];exact h2) h3 h4)) λD σ H ⟨H0,B,τ,S,ss,h⟩=>?_
 simp only[bM,zY,bS,zW,zk,zZ,zV,zQ,bR,zE,zB,zL,zI,zN,zM,zJ,zO,zH,qV,zd,qX,qY,zb,qU,qZ,ze,zc,ql,qB,qD,qx,qy,qm,qF,qo,qq,qE,qs,qJ,qk,qG,qM,qC,qr,qI,qH,qP,qt,qQ,qK,qN,qO,qL,qh,qp,qA,qu,bE]at h;cases q:τ[i]? with
 |none=>rw[q]at h;exact h.elim
 |some o=>
  cases o with
  |none=>rw[q]at h;exact h.elim
  |some d=>
   rw[q]at h;obtain⟨a,vs,ds,z1,y1,rfl,y2,y3⟩:=ss.own i d ⟨x,h1,ho⟩ q;obtain⟨r1,r2⟩:=gH (H':=H) ss (ss.new a y1) y2 (jv ss y1 y3);exact⟨_,z1,h _ H ss.same r1 λ_=>r2⟩
theorem gB{e:Expr}{ie:EV.E}{i:Nat}{st:Stmt}{te:TE}(hp:PS X st (gv te (dg i)))(hr:∀σ H Q,tE w g c E ie σ H Q->te σ H Q)(hlt:i<c.N.length)(hk:(zr c i/\fresh c ie=true/\c.frz=false)\/(¬ zr c i/\esc ie=true)):PS X st (tS w g c E fr (.set (.nm i) ie)):=
 PS.imp hp λD σ H ⟨H0,B,τ,S,ss,h⟩=>by
  simp only[bM,zY,bS,zW,zk,zZ,zV,zQ,bR,zE,zB,zL,zI,zN,zM,zJ,zO,zH,store]at h;refine hr σ H _ (s_e ss h λd v H' _ p k=>?_);have k:∀σ' H2 S2,SS g c H0 B (τ.set i (some d)) σ' H2 S2->qf (hid H S) (hid H2 S2)->D.nx σ' H2:=k;rcases hk with ⟨ho,hf,hfz⟩|⟨ho,he⟩
  ·obtain⟨S',s1,s2⟩:=ss.setOwn hfz ho (by rw[ss.lenN];exact hlt) p.same (p.fr hf);exact k _ _ S' s1 s2
  ·exact k _ _ S ((ss.up p.same).set ho (p.st he)) (zf p.same)
theorem wU(O:XO w g c E X){tg e:Expr}{itg:Tg}{ie:EV.E}{pos:Pos}(he:PE X e (tE w g c E ie))(hg:PG X tg (gT X.K itg))(hf:eZ c itg)(hes:esc ie=true)(hs:swapsWithSole [tg] e pos.line X.env=pure false)(hw:swappedStores [tg] e X.env=pure none)(h1:(assignEach [tg] X.env).map (·.2)=[assign tg X.env]) :
  PS X (.Assign [tg] e pos) (tS w g c E fr (.set itg ie)):=
 PS.imp (ku he hg hs hw h1) λD σ H ⟨H0,B,τ,S,ss,h⟩=>by
  simp only[bM,zY,bS,zW,zk,zZ,zV,zQ,bR,zE,zB,zL,zI,zN,zM,zJ,zO,zH]at h;refine s_e ss h λd v H' _ p k=>?_
  cases q:store itg d τ with
  |ok τ'=>
   rw[q]at k;exact(ss.up p.same).store O.K hf (p.st hes) q λσ' s1=>k σ' H' S s1 (zf p.same)
  |ex z=>cases itg<;>simp only[store]at q<;>first|cases q|(split at q<;>first|cases q|(split at q<;>first|(exact absurd q (lF))|cases q))
  |no=>rw[q]at k;exact k.elim
end
section
variable{w:W}{g:Gc}{c:Cc}{E:XK}{fr:Bool}{X:Cx}{H0:Hp}{B:Sh}{τ:Env}{σ:L2.St}{H H':Hp}{S:Sh}{Ed:Ends}
theorem l7{i:Nat}{d:EV.D}(h:bE τ i=.ok d):τ[i]? = some (some d):=by
 unfold bE at h;split at h
 ·rename_i q;cases h;exact q
 ·cases h
theorem wV(O:XO w g c E X)(hfz:c.frz=false){x:Str}{i:Nat}{a:Expr}{ia:EV.E}{p ap cp pos:Pos}(h:loc c x=some i)(ho:c.own.contains x=true)(ha:PE X a (tE w g c E ia))(hes:esc ia=true)(hs:isStar a=false)(hl:(ap.endLine==cp.line)=true) :
  PS X (.Expr (.Call (.Attribute (.Name x p) "append" ap) [a] [] cp) pos) (tS w g c E fr (.app i ia)):=by
 obtain⟨h1,h2,h3,h4⟩:=cU h;have hv:PE X (.Name x p) (eU i):=fH (i:=i) (by rw[O.N];exact h1) (by unfold ez;rw[O.nm];exact h2) h3 h4;have hst:=qT (es:=[]) (env:=X.env) hs;have hb:=fI (X:=X) (apos:=ap) (cpos:=cp) PySem.F.plainAttrs_list PySem.F.slot_list_append PySem.F.type_list_append kj hv (zw ha b5 hst) rfl (by rw[hst];rfl) hl hst rfl;refine PS.imp (lH hb rfl) λD σ H ⟨H0,B,τ,S,ss,k⟩=>?_
 simp only[bM,zY,bS,zW,zk,zZ,zV,zQ,bR,zE,zB,zL,zI,zN,zM,zJ,zO,zH]at k;cases q:bE τ i with
 |ex z=>unfold bE at q;split at q<;>cases q
 |no=>rw[q]at k;exact k.elim
 |ok d0=>
  rw[q]at k;have q':=l7 q;have hi:zr c i:=⟨x,h1,ho⟩
  obtain⟨ad,vs,ds,z1,y1,rfl,y2,y3⟩:=ss.own i d0 hi q';refine⟨_,z1,.inl ⟨rfl,vs,SqL.of y2⟩,s_e ss k λd v H1 _ p1 k1=>?_⟩;simp only at k1;by_cases hz:ds.length<SZ
  ·rw[if_pos hz]at k1;have s1:=ss.up p1.same;have y2':=p1.same _ _ y2;obtain⟨s2,s3⟩:=s1.change (vs:=vs++[v]) (ds:=ds++[d]) hfz hi q' z1 ((y3.mono (zf p1.same)).append (.cons (p1.st hes) .nil));exact⟨ad,vs,v,rfl,rfl,y2',by rw[<-y3.length,bh];unfold SZ at hz;lia,k1 _ _ S s2 ((zf p1.same).trans s3)⟩
  ·rw[if_neg hz]at k1;exact k1.elim
theorem rk(O:XO w g c E X)(hfz:c.frz=false){x:Str}{i:Nat}{k e:Expr}{ik ie:EV.E}{p sp pos:Pos}(h:loc c x=some i)(ho:c.own.contains x=true)(hk:PE X k (tE w g c E ik))(he:PE X e (tE w g c E ie))(hes:esc ie=true)(hsl:isSlice k=false)(hc:cV e=false) :
  PS X (.Assign [.Subscript (.Name x p) k sp] e pos) (tS w g c E fr (.seti i ik ie)):=by
 obtain⟨h1,h2,h3,h4⟩:=cU h;have hv:PE X (.Name x p) (eU i):=fH (i:=i) (by rw[O.N];exact h1) (by unfold ez;rw[O.nm];exact h2) h3 h4;have hg:PG X (.Subscript (.Name x p) k sp) (jq (eU i) (tE w g c E ik) l9):=tw hv hk set_list (by intro v;cases k<;>first|rfl|(simp[isSlice]at hsl));refine PS.imp (ku he hg (by simp only[swapsWithSole];exact fE hc) rfl rfl) λD σ H ⟨H0,B,τ,S,ss,k⟩=>?_
 simp only[bM,zY,bS,zW,zk,zZ,zV,zQ,bR,zE,zB,zL,zI,zN,zM,zJ,zO,zH]at k;refine s_e ss k λd v H1 _ p1 k1=>?_
 cases q:bE τ i with
 |ex z=>unfold bE at q;split at q<;>cases q
 |no=>rw[q]at k1;exact k1.elim
 |ok d0=>
  rw[q]at k1;have q':=l7 q;have hi:zr c i:=⟨x,h1,ho⟩
  have s1:=ss.up p1.same;obtain⟨ad,vs,ds,z1,y1,rfl,y2,y3⟩:=s1.own i d0 hi q';refine⟨_,z1,s_e s1 (bz.up k1 (zf p1.same)) λn vn H2 _ p2 k2=>?_⟩;cases n with
  |int j=>
   simp only at k2;cases qj:ixN ds.length j with
   |none=>rw[qj]at k2;exact k2.elim
   |some m=>
    rw[qj]at k2;have s2:=s1.up p2.same;have y2':=p2.same _ _ y2;obtain⟨s3,s4⟩:=s2.change (vs:=vs.set m v) (ds:=ds.set m d) hfz hi q' z1 ((y3.mono (zf p2.same)).set ((p1.st hes).mono (zf p2.same)) m);exact⟨ad,vs,j,m,rfl,p2.rb.int,y2',by rw[<-y3.length];exact qj,k2 _ _ S s3 ((zf p2.same).trans s4)⟩
  |_=>exact k2.elim
theorem n6:PSs X [] (tSs w g c E fr .nil):=PSs.imp mw λD σ H ⟨H0,B,τ,S,ss,h⟩=>by
 simp only[qe]at h;exact h σ H S ss (qf.refl _)
theorem jZ{s:Stmt}{r:List Stmt}{is:EV.S}{ir:Ss}(h1:PS X s (tS w g c E fr is))(h2:PSs X r (tSs w g c E fr ir)):PSs X (s::r) (tSs w g c E fr (.cons is ir)):=
 PSs.imp (nM h1 h2) λD σ H ⟨H0,B,τ,S,ss,h⟩=>by
  simp only[qe]at h;refine⟨H0,B,τ,S,ss,?_⟩;cases q:evS w is τ with
  |nx τ'=>rw[q]at h;exact λσ' H' S' s' e=>⟨H0,B,τ',S',s',bz.up h e⟩
  |bk τ'=>rw[q]at h;exact h
  |ct τ'=>rw[q]at h;exact h
  |rt d=>rw[q]at h;exact h
  |ex k=>rw[q]at h;exact h
  |no=>rw[q]at h;exact h
theorem ng{t:Expr}{a b:List Stmt}{it:T}{ia ib:Ss}{pos:Pos}(ht:PT X t (tT w g c E it))(ha:PSs X a (tSs w g c E fr ia))(hb:PSs X b (tSs w g c E fr ib)):PS X (.If t a b pos) (tS w g c E fr (.ite it ia ib)):=
 PS.imp (pU ht ha hb) λD σ H ⟨H0,B,τ,S,ss,h⟩=>by
  simp only[bM,zY,bS,zW,zk,zZ,zV,zQ,bR,zE,zB,zL,zI,zN,zM,zJ,zO,zH]at h;refine s_t ss h λz H1 _ s1 k1=>?_
  cases z with
  |true=>exact⟨H0,B,τ,S,ss.up s1,bz.up k1 (zf s1)⟩
  |false=>exact⟨H0,B,τ,S,ss.up s1,bz.up k1 (zf s1)⟩
theorem PS.nox'{st:Stmt}{t:TS}(h:PS X.nox st t):PS X st t:=λpins s σ H D I hw=>
 bq (h pins s σ H D (I.wish _) hw) (λ_ _ q=>q.unwish) λ_ _ z=>aJ z
theorem XO.nox(O:XO w g c E X):XO w g c E0 X.nox:=⟨O.K,O.nm,O.N,O.nd,O.calm,O.units,O.fn,O.kind,iO rfl rfl,O.gok,O.fns,O.sub⟩
theorem XS.nox(O:XS w g c E X):XS w g c E0 X.nox:=⟨O.toXO.nox,λ_ _ _ _ _ _ _ _ _ _ _ z=>aJ z,O.exc,O.cat,O.frm,O.gh⟩
theorem nv{o:O}(h:bz g c E fr H0 B H S Ed o.noEx):bz g c E0 fr H0 B H S Ed o/\(∀k,o≠.ex k)/\o≠.no:=by
 cases o with
 |ex k=>exact h.elim
 |no=>exact h.elim
 |nx t=>exact⟨h,(λ_ z=>by cases z),(λz=>by cases z)⟩
 |bk t=>exact⟨h,(λ_ z=>by cases z),(λz=>by cases z)⟩
 |ct t=>exact⟨h,(λ_ z=>by cases z),(λz=>by cases z)⟩
 |rt t=>exact⟨h,(λ_ z=>by cases z),(λz=>by cases z)⟩
noncomputable def frozen(c:Cc)(b:Bool):Cc:={c with frz:=c.frz||b}
theorem XS.froze(O:XS w g c E X){b:Bool}:XS w g (frozen c b) E X:=
 ⟨⟨O.K,O.nm,O.N,O.nd,O.calm,O.units,O.fn,O.kind,O.pass,O.gok,O.fns,O.sub⟩,O.thr,O.exc,O.cat,O.frm,O.gh⟩
noncomputable def cD(B:Sh)(b:Bool)(σ:L2.St)(H:Hp):Sh:=if b=true then ⟨B.o,B.h,σ,H⟩else B
theorem g_{b:Bool}:(cD B b σ H).h=B.h:=by unfold cD;split<;>rfl
theorem mW{b:Bool}{H1:Hp}:hid H1 (cD B b σ H)=hid H1 B:=by funext a;unfold hid;rw[g_]
theorem SS.froze(b:Bool)(ss:SS g c H0 B τ σ H S):SS g (frozen c b) H0 (cD B b σ H) τ σ H S:=by
 refine⟨⟨ss.se.len,ss.se.val,ss.se.sub⟩,ss.lenN,ss.same,?_,?_,ss.new,ss.own,ss.inj,λz=>?_⟩
 ·unfold cD;split
  ·exact ss.sub0
  ·exact ss.sub0
 ·rw[g_];exact ss.hd
 ·cases b with
  |true=>exact⟨λi _=>rfl,qf.refl _⟩
  |false=>
   have z:(c.frz||false)=true:=z;rw[Bool.or_false]at z;exact ss.frz z
theorem SS.thaw{b:Bool}{σ1:L2.St}{H1:Hp}{τ1:Env}{S1:Sh}(s0:SS g c H0 B τ1 σ1 H1 S1)(ss:SS g (frozen c b) H0 (cD B b σ1 H1) τ σ H S):SS g c H0 B τ σ H S:=by
 refine⟨⟨ss.se.len,ss.se.val,ss.se.sub⟩,ss.lenN,ss.same,s0.sub0,?_,ss.new,ss.own,ss.inj,λz=>?_⟩
 ·have:=ss.hd;rw[g_]at this;exact this
 ·have f:=ss.frz (by show (c.frz||b)=true;rw[z];rfl);cases b with
  |true=>exact⟨λi hi=>(f.1 i hi).trans ((s0.frz z).1 i hi),(s0.frz z).2.trans f.2⟩
  |false=>exact f
theorem SS.iced{b:Bool}{σ1:L2.St}{H1:Hp}(hb:b=true)(ss:SS g (frozen c b) H0 (cD B b σ1 H1) τ σ H S):qf H1 H:=by
 subst hb;exact(ss.frz (by show (c.frz||true)=true;rw[Bool.or_true])).2
theorem wo(O:XO w g c E X)(hc:X.calm=true){tg it:Expr}{b:List Stmt}{itg:Tg}{iit:It}{ib:Ss}{pos:Pos}(hi:PI X.nox tg it (tIt w g c E0 iit))(hg:PG X.nox tg (gT X.K itg))(hf:eZ c itg)(hb:PSs X.nox b (tSs w g (frozen c (owned iit)) E0 fr ib))(hs:zl it=true) :
  PS X (.For tg it b [] pos) (tS w g c E fr (.for itg iit ib)):=by
 refine PS.nox' (PS.imp (nB (X:=X.nox) PassesOwn.never hc hi hg hb (λx=>by cases it<;>first|rfl|(simp[zl]at hs))) λD σ H ⟨H0,B,τ,S,ss,h⟩=>?_);simp only[bM,zY,bS,zW,zk,zZ,zV,zQ,bR,zE,zB,zL,zI,zN,zM,zJ,zO,zH]at h;obtain⟨h,nex,nno⟩:=nv h;cases q:evI w iit τ with
 |ex z=>rw[q]at nex;exact absurd rfl (nex z)
 |no=>rw[q]at nno;exact absurd rfl nno
 |ok ds=>
  rw[q]at h nex nno;simp only[R.out_ok]at h nex nno;refine⟨τ,S,ss.se,?_⟩;rw[q];intro J H1 s1 kW kS;generalize hr:bW itg (λσ=>qe w ib σ) ds τ=r at h nex nno;refine⟨λi m σ' H'=>m=ds.length-i/\i<=ds.length/\∃τ' S',SS g (frozen c (owned iit)) H0 (cD B (owned iit) σ H1) τ' σ' H' S'/\qf (hid H1 S) (hid H' S')/\bW itg (λσ=>qe w ib σ) (ds.drop i) τ'=r,⟨ds.length,rfl,Nat.zero_le _,τ,S,(ss.up s1).froze _,qf.refl _,hr⟩,?_⟩;rintro i m σ' H' ⟨rfl,hi',τ',S',ss',e',hl⟩;have gg:Goes g J ds H' S':=by
   cases hw:owned iit with
   |false=>exact kS hw H' S' e' ss'.se.sub
   |true=>exact kW H' S' (ss'.iced hw) e' ss'.se.sub
  obtain⟨g1,g2⟩:=gg;have eH:qf (hid H S) (hid H' S'):=(zf s1).trans e';by_cases hlt:i<ds.length
  ·have hd:ds[i]? = some ds[i]:=List.getElem?_eq_getElem hlt;obtain⟨go1,go2⟩:=g2 i ds[i] hd;refine .inr ⟨go1,λσ2 H2=>∃τ' S',SS g (frozen c (owned iit)) H0 (cD B (owned iit) σ H1) τ' σ2 H2 S'/\qf (hid H1 S) (hid H2 S')/\bW itg (λσ=>qe w ib σ) (ds.drop (i+1)) τ'=r,λσ2 H2 z=>⟨ds.length-(i+1),by lia,rfl,hlt,z⟩,λx H2 hy=>?_⟩;obtain⟨s2,rx⟩:=go2 x H2 hy;rw[List.drop_eq_getElem_cons hlt]at hl;simp only[bW]at hl;cases q1:store itg ds[i] τ' with
   |ex z=>rw[q1]at hl;exact absurd hl.symm (nex z)
   |no=>rw[q1]at hl;exact absurd hl.symm nno
   |ok τ1=>
    rw[q1]at hl;simp only[R.out_ok]at hl;refine(ss'.up s2).store O.K hf rx q1 λσ1 ss1=>⟨H0,_,τ1,S',ss1,?_⟩
    cases q2:qe w ib τ1 with
    |nx τ2=>rw[q2]at hl;exact λσ2 H3 S3 s3 e3=>⟨τ2,S3,s3,(e'.trans (zf s2)).trans e3,hl⟩
    |ct τ2=>rw[q2]at hl;exact λσ2 H3 S3 s3 e3=>⟨τ2,S3,s3,(e'.trans (zf s2)).trans e3,hl⟩
    |bk τ2=>
     rw[q2]at hl;simp only at hl;rw[<-hl]at h;exact λσ2 H3 S3 s3 e3=>h σ2 H3 S3 ((ss.up s1).thaw s3) ((eH.trans (zf s2)).trans e3)
    |rt d=>
     rw[q2]at hl;simp only at hl;rw[<-hl]at h;refine λv H3 s3 r3 f3=>h v H3 s3 (by rw[mW]at r3;exact r3) λz=>?_
     have f3:=f3 z;unfold cD at f3;split at f3
     ·exact f3
     ·exact f3
    |ex z=>rw[q2]at hl;exact absurd hl.symm (nex z)
    |no=>rw[q2]at hl;exact absurd hl.symm nno
  ·have e:i=ds.length:=by lia
   subst e;rw[List.drop_length]at hl;simp only[bW]at hl;rw[<-hl]at h;exact .inl ⟨g1 ds.length (aC _),h σ' H' S' ((ss.up s1).thaw ss') eH⟩
theorem rW{t:Expr}{b:List Stmt}{it:T}{ib:Ss}{pos:Pos}(ht:PT X.nox t (tT w g c E0 it))(hb:PSs X.nox b (tSs w g c E0 fr ib)):PS X (.While t b [] pos) (tS w g c E fr (.while it ib)):=λpins s σ H D I ⟨H0,B,τ,S,ss,h⟩=>by
 simp only[bM,zY,bS,zW,zk,zZ,zV,zQ,bR,zE,zB,zL,zI,zN,zM,zJ,zO,zH]at h;exact aJ h
theorem rq(O:XS w g c E X)(hc:X.calm=true)(ht:c.thr=true){x:Str}{a:Expr}{as:List Expr}{ies:Es}{np cp pos:Pos}{n:Nat}(h:glob c x=some .exc)(ha:PA X (a::as) (tA w g c E ies))(hes:cEs n c (a::as)=some ies)(hn:(a::as).length<=100000) :
  PS X (.Raise (some (.Call (.Name x np) (a::as) [] cp)) none pos) (tS w g c E fr (.raise x ies)):=by
 obtain⟨C,h1,h2⟩:=O.gm h;have hs:=dk hes;refine PS.imp (ml hc (O.thr ht) (by rw[O.K];exact O.exc x C (qW h).2.1 h2) (O.gl h) h1 ha (qW h).2.2.1 (qT (hs a aM)) (eJ λz hz=>hs z (aL _ hz))) λD σ H ⟨H0,B,τ,S,ss,k⟩=>?_
 simp only[bM,zY,bS,zW,zk,zZ,zV,zQ,bR,zE,zB,zL,zI,zN,zM,zJ,zO,zH]at k;refine s_a ss k λds vs H1 e1 s1 r k1=>⟨?_,k1 H1 C (ss.same.trans s1) h2⟩
 have:vs.length=ds.length:=(Paired.length r).symm;rw[this,fX hes e1];exact gM hn
end
section
variable{w:W}{g:Gc}{c:Cc}{E:XK}{fr:Bool}{X:Cx}{H0:Hp}{B:Sh}{τ:Env}{σ:L2.St}{H H':Hp}{S:Sh}{Ed:Ends}
theorem ou{s:Stmt}:PS X s (tS w g c E fr .unk):=λpins s σ H D I ⟨H0,B,τ,S,ss,h⟩=>by
 simp only[bM,zY,bS,zW,zk,zZ,zV,zQ,bR,zE,zB,zL,zI,zN,zM,zJ,zO,zH]at h;exact h.elim
theorem nq(O:XO w g c E X)(hfz:c.frz=false){x:Str}{i:Nat}{k a:Expr}{ik ia:EV.E}{p ap cp pos:Pos}(h:loc c x=some i)(ho:c.own.contains x=true)(hk:PE X k (tE w g c E ik))(ha:PE X a (tE w g c E ia))(hes:esc ia=true)(hsk:isStar k=false)(hs:isStar a=false)(hl:(ap.endLine==cp.line)=true) :
  PS X (.Expr (.Call (.Attribute (.Name x p) "insert" ap) [k,a] [] cp) pos) (tS w g c E fr (.ins i ik ia)):=λpins s σ H D I ⟨H0,B,τ,S,ss,h⟩=>by
 simp only[bM,zY,bS,zW,zk,zZ,zV,zQ,bR,zE,zB,zL,zI,zN,zM,zJ,zO,zH]at h;exact aJ h
theorem SS.cong{c':Cc}(hN:c'.N=c.N)(ho:c'.own=c.own)(hz:c'.frz=c.frz)(s:SS g c H0 B τ σ H S):SS g c' H0 B τ σ H S:=by
 cases c;cases c';simp only at hN ho hz;subst hN ho hz;exact⟨⟨s.se.len,s.se.val,s.se.sub⟩,s.lenN,s.same,s.sub0,s.hd,s.new,s.own,s.inj,s.frz⟩
theorem jM{i:Option Nat}{k:Str}:(bQ τ i k).length=τ.length:=by
 cases i<;>simp[bQ]
theorem SS.hand{σ':L2.St}{k:Str}{i:Option Nat}(ss:SS g c H0 B τ σ H S)(hz:c.frz=false)(he:c.own=[])(hs:qf H0 H')(hl:σ'.length=c.N.length)(hv:∀(j:Nat) (d:EV.D),(bQ τ i k)[j]? = some (some d)->∃v,σ'[j]? = some (some v)/\Rep g (hid H' B) d v) :
  SS g (eu c) H0 B (bQ τ i k) σ' H' ⟨λ_=>false,B.h,B.z,B.y⟩:=by
 have hh:hid H' ⟨λ_=>false,B.h,B.z,B.y⟩=hid H' B:=rfl;have no:∀j,¬ zr (eu c) j:=λj ⟨x,_,h2⟩=>by
  have h2:c.own.contains x=true:=h2;rw[he]at h2;cases h2
 refine⟨⟨by rw[jM,ss.lenN,hl],λj d h=>?_,λa ha=>?_⟩,by rw[jM];exact ss.lenN,hs,ss.sub0,(λa=>by simp),(λa ha=>by cases ha),λj d hj=>(no j hj).elim,λj _ d _ a hj=>(no j hj).elim,(λz=>by have z:c.frz=true:=z;rw[hz]at z;cases z)⟩
 ·obtain⟨v,h1,h2⟩:=hv j d h;exact⟨v,h1,.inl h2,λ_ _ _=>h2⟩
 ·refine(ss.sub0.same hs) a ?_;rcases ha with ha|ha
  ·exact .inl ha
  ·cases ha
noncomputable def EhT(w:W)(g:Gc)(b:Ss)(τ:Env)(H0:Hp):XK:=λcls o H'=>∃k C,cls=.ref C/\o=none/\g.clA k=some C/\qe w b τ=.ex k/\qf H0 H'
theorem lx{ib:Ss}{x:Str}{i:Option Nat}{ih:Ss}{c':Cc}(hN:c'.N=c.N)(ho:c'.own=c.own)(hz:c'.frz=c.frz)(h:bz g c E fr H0 B H S Ed (evS w (.try ib x i ih) τ)):bz g c' (EhT w g ib τ H0) fr H0 B H S Ed (qe w ib τ):=by
 simp only[bM,zY,bS,zW,zk,zZ,zV,zQ,bR,zE,zB,zL,zI,zN,zM,zJ,zO,zH]at h;have c1:∀{τ':Env}{σ':L2.St}{H':Hp}{S':Sh},SS g c' H0 B τ' σ' H' S'->SS g c H0 B τ' σ' H' S':=λs=>s.cong hN.symm ho.symm hz.symm
 cases q:qe w ib τ with
 |nx τ'=>rw[q]at h;exact λσ' H' S' s e=>h σ' H' S' (c1 s) e
 |bk τ'=>rw[q]at h;exact λσ' H' S' s e=>h σ' H' S' (c1 s) e
 |ct τ'=>rw[q]at h;exact λσ' H' S' s e=>h σ' H' S' (c1 s) e
 |rt d=>rw[q]at h;exact h
 |ex k=>exact λH' C s hc=>⟨k,C,rfl,rfl,hc,q,s⟩
 |no=>rw[q]at h;exact h
theorem jE{ib ih:Ss}{x:Str}{i:Option Nat}{k:Str}(h:bz g c E false H0 B H S Ed (evS w (.try ib x i ih) τ))(q:qe w ib τ=.ex k):w.cat k x=true/\∃d,qe w ih (bQ τ i k)=.rt d/\∀v H',qf H0 H'->Rep g (hid H' B) d v->Ed.rt v H':=by
 simp only[bM,zY,bS,zW,zk,zZ,zV,zQ,bR,zE,zB,zL,zI,zN,zM,zJ,zO,zH]at h;rw[q]at h;simp only at h;split at h
 ·rename_i hc
  refine⟨hc,?_⟩;cases z:qe w ih (bQ τ i k)with
  |rt d=>rw[z]at h;exact⟨d,rfl,λv H' s r=>h v H' s r (by intro y;cases y)⟩
  |nx _=>rw[z]at h;exact h.elim
  |bk _=>rw[z]at h;exact h.elim
  |ct _=>rw[z]at h;exact h.elim
  |ex _=>rw[z]at h;exact h.elim
  |no=>rw[z]at h;exact h.elim
 ·exact h.elim
theorem XS.inTry(O:XS w g c E X){Eh:XK}{pn:List (Addr×Obj)}{Et:ae->af->Prop}(hp:Passes (CX1 X.prog X.w) (X.inTry pn Et) Eh):XS w g {c with thr:=false} Eh (X.inTry pn Et):=
 ⟨⟨O.K,O.nm,O.N,O.nd,O.calm,O.units,O.fn,O.kind,hp,O.gok,O.fns,O.sub⟩,(λz=>by cases z),O.exc,O.cat,O.frm,O.gh⟩
theorem XS.held(O:XS w g c E X)(x:Addr):XS w g (eu c) E0 (X.held x):=
 ⟨⟨O.K,O.nm,O.N,O.nd,(λz=>by cases z),O.units,O.fn,O.kind,iO rfl rfl,(λy k z=>(O.gh y k z).2 _),(λz=>by cases z),O.sub⟩,(λz=>by cases z),(λy C z _=>absurd rfl (O.gh y .exc z).1),O.cat,O.frm,(λy k z=>by cases z)⟩
theorem tZ(O:XS w g c E X){x:Str}{b:List Stmt}{b₀:Stmt}{suite:List Stmt}{ib ih:Ss}{np hpos pos:Pos}(hfz:c.frz=false)(he:c.own=[])(hg:glob c x=some .exc\/glob c x=some .exk)
  (hb:∀(Eh:XK) pn Et,XS w g {c with thr:=false} Eh (X.inTry pn Et)->PSs (X.inTry pn Et) b (tSs w g {c with thr:=false} Eh false ib)) (hs:∀y,PSs (X.held y) (b₀::suite) (tSs w g (eu c) E0 false ih)) :
  PS X (.Try b [.ExceptHandler (some (.Name x np)) none (b₀::suite) hpos] [] [] pos) (tS w g c E false (.try ib x none ih)):=by
 have hG:∃C,X.mg x=some (.ref C)/\g.clA x=some C/\Gl X x/\(x==("__debug__" : Str))=false:=by
  rcases hg with h|h
  ·obtain⟨C,h1,h2⟩:=O.gm h;exact⟨C,h1,h2,O.gl h,(qW h).2.2.1⟩
  ·obtain⟨C,h1,h2⟩:=O.gm h;exact⟨C,h1,h2,O.gl h,(qW h).2.2.1⟩
 obtain⟨C,hm,hc,hgl,hd⟩:=hG;intro pins s σ H D I ⟨H0,B,τ,S,ss,h⟩;refine uN (Eh:=EhT w g ib τ H0) O.frm.1 O.frm.2.1 O.frm.2.2 hgl hm (λpn Et hp=>hb _ pn Et (O.inTry hp)) hs hd pins s σ H D I ⟨⟨H0,B,τ,S,SS.cong (c:=c) rfl rfl rfl ss,lx (c:=c) rfl rfl rfl h⟩,λσ' cls H' hl hE=>?_⟩;obtain⟨k,C',rfl,_,hk,q,sm⟩:=hE;obtain⟨z1,d,z2,z3⟩:=jE h q;refine⟨by rw[O.K];exact O.cat k x z1 C' C hk hc,H0,B,bQ τ none k,⟨λ_=>false,B.h,B.z,B.y⟩,ss.hand hfz he sm (by rw[hl,O.N]) (λj d hj=>?_),?_⟩
 ·simp only[bQ,List.getElem?_map]at hj;cases z:τ[j]? with
  |none=>rw[z]at hj;cases hj
  |some o=>rw[z]at hj;cases hj
 ·rw[z2];exact λv H'' s' r _=>z3 v H'' s' r
theorem oY(O:XS w g c E X){x n:Str}{i:Nat}{b:List Stmt}{b₀:Stmt}{suite:List Stmt}{ib ih:Ss}{np hpos pos:Pos}(hfz:c.frz=false)(he:c.own=[])(hg:glob c x=some .exc\/glob c x=some .exk)(hi:c.N[i]? = some n)(hn:c.nm.lookup n=some .local)
  (hb:∀(Eh:XK) pn Et,XS w g {c with thr:=false} Eh (X.inTry pn Et)->PSs (X.inTry pn Et) b (tSs w g {c with thr:=false} Eh false ib)) (hs:∀y,PSs (X.held y) (b₀::suite) (tSs w g (eu c) E0 false ih)) :
  PS X (.Try b [.ExceptHandler (some (.Name x np)) (some n) (b₀::suite) hpos] [] [] pos) (tS w g c E false (.try ib x (some i) ih)):=by
 have hG:∃C,X.mg x=some (.ref C)/\g.clA x=some C/\Gl X x/\(x==("__debug__" : Str))=false:=by
  rcases hg with h|h
  ·obtain⟨C,h1,h2⟩:=O.gm h;exact⟨C,h1,h2,O.gl h,(qW h).2.2.1⟩
  ·obtain⟨C,h1,h2⟩:=O.gm h;exact⟨C,h1,h2,O.gl h,(qW h).2.2.1⟩
 obtain⟨C,hm,hc,hgl,hd⟩:=hG;intro pins s σ H D I ⟨H0,B,τ,S,ss,h⟩;have hlt:i<c.N.length:=(List.getElem?_eq_some_iff.mp hi).1;refine rG (Eh:=EhT w g ib τ H0) (i:=i) O.frm.1 O.frm.2.1 O.frm.2.2 (by rw[O.N];exact O.nd) (by rw[O.N];exact hi) (by rw[O.nm];exact hn) hgl hm (λpn Et hp=>hb _ pn Et (O.inTry hp)) hs hd pins s σ H D I ⟨⟨H0,B,τ,S,SS.cong (c:=c) rfl rfl rfl ss,lx (c:=c) rfl rfl rfl h⟩,λσ' cls H' x' hl hE hx=>?_⟩;obtain⟨k,C',rfl,_,hk,q,sm⟩:=hE;obtain⟨z1,d,z2,z3⟩:=jE h q;have s2:qf H' (upd H' x' (eC x' (.ref C'))):=zi hx;refine⟨by rw[O.K];exact O.cat k x z1 C' C hk hc,H0,B,bQ τ (some i) k,⟨λ_=>false,B.h,B.z,B.y⟩,ss.hand hfz he (sm.trans s2) (by rw[List.length_set,hl,O.N]) (λj d hj=>?_),?_⟩
 ·simp only[bQ]at hj;have hi':i<σ'.length:=by rw[hl,O.N];exact hlt
  by_cases hij:i=j
  ·subst hij;have hlt':i<(τ.map λ_=>(none:Option EV.D)).length:=by rw[bK,ss.lenN];exact hlt
   rw[List.getElem?_set_self hlt']at hj;cases hj;refine⟨.ref x',by rw[List.getElem?_set_self hi'],.exn hk (bx.mpr ⟨ss.sub0.free (sm.free hx),zm⟩)⟩
  ·rw[List.getElem?_set_ne hij,List.getElem?_map]at hj;cases z:τ[j]? with
   |none=>rw[z]at hj;cases hj
   |some o=>rw[z]at hj;cases hj
 ·rw[z2];exact λv H'' s' r _=>z3 v H'' s' r
end
theorem oj{e:Expr}{x:Str}{ap cp:Pos}{k a:Expr}(h:kM e=some (x,ap,k,a,cp)):∃p,e=.Call (.Attribute (.Name x p) "insert" ap) [k,a] [] cp:=by cases h
theorem rF{ts:List Expr}{k:Nat}{p:Pos}{e:Expr}{env:PySem.Env}(h:isTup e=true->hU e=true):swappedStores [.Tuple ts k p] e env=pure none:=by
 cases e<;>first|rfl|skip
 rename_i vs k2 p2
 have h:vs.all (foldedForSure 8)=true:=h rfl;unfold swappedStores;simp only[h,if_true];split
 ·rfl
 ·split
  ·rfl
  ·split
   ·rfl
   ·rfl
section
variable{w:W}{g:Gc}{c:Cc}{E:XK}{fr:Bool}{X:Cx}
theorem tQ(O:XO w g c E X){n:Nat}(hn:n<=100000){x:Str}{i:Nat}{elt:Expr}{gs:List bI}{sc:aH}{p p' pos:Pos}{ie:EV.E}(hl:b6 c x=some i)(h:cE n c (.ListComp elt gs sc p)=some ie)(htw:gD (.ListComp elt gs sc p)=false)(hk:(zr c i/\fresh c ie=true/\c.frz=false)\/(¬ zr c i/\esc ie=true)) :
  PS X (.Assign [.Name x p'] (.ListComp elt gs sc p) pos) (tS w g c E fr (.set (.nm i) ie)):=by
 obtain⟨l1,l2⟩:=dy hl;obtain⟨l3,_⟩:=cU l1;have hlt:i<c.N.length:=(List.getElem?_eq_some_iff.mp l3).1;have hN:X.N.Nodup:=by rw[O.N];exact O.nd
 have hix:X.N[i]? = some x:=by rw[O.N];exact l3
 have hx:L2.Loc X.env.scope x:=by unfold L2.Loc;rw[O.nm];rcases l2 with z|z;exact .inl z;exact .inr z.1
 have hf:X.fn x=true\/X.env.scope.names.lookup x=some .local:=by
  rcases l2 with z|z
  ·exact .inr (by rw[O.nm];exact z)
  ·exact .inl (O.fn x z.2)
 cases hb:(X.env.blockKind==.function&&X.env.kindOf x==some .local&&p'.line==p.line && !(sc.names.any λ(n,k)=>n==x&&(k==.local||k==.cell)))with
 |false=>
  have hs:swapsWith (.ListComp elt gs sc p) (some (.Name x p')) pos.line X.env=pure false:=by rw[<-hb];rfl
  exact gB (e:=.ListComp elt gs sc p) (lL hN hix hx ((snd n hn).e O h) hs hf) (λ_ _ _ z=>z) hlt hk
 |true=>
  have hs:swapsWith (.ListComp elt gs sc p) (some (.Name x p')) pos.line X.env=pure true:=by rw[<-hb];rfl
  match n,h with
  | 0,h=>cases h
  |m+1,h=>
   have ih:=snd (w:=w) (g:=g) m (Nat.le_of_succ_le hn);obtain⟨tgt,it,ifs,iit,itg,it',ie',rfl,hs1,hk1,h1,h2,h3,h4,he,rfl⟩:=lA h;have hS:zR X (zU sc.names) (eA c sc.names) sc:=zR.of (by
    have e1:(λx=>c.nm.lookup x)=X.env.kindOf:=by funext x;show _=X.env.scope.names.lookup x;rw[O.nm]
    rw[<-e1,O.N];exact hk1.1)
   refine gB (e:=.ListComp elt [⟨tgt,it,ifs,0⟩] sc p) (nL (tb:=λacc=>fF acc (tE w g (bY c sc) E0 ie')) hN hix hx (O.calm hs1.1) hS (ih.i O h1 he.2) (λcl C s₀ H₀ fp=>?_) (by simp) hs hf (λx=>by
    have q:=hs1.2;cases it<;>first|rfl|cases q)) (λσ H Q q=>lP O hS he.1 q) hlt hk
   have OY:=O.comp hS.kind hk1.2 cl C s₀ H₀ fp;exact⟨fU OY h2,ih.ifs OY h3,λacc=>jO rfl (ih.e OY h4)⟩
end
structure eN(w:W)(g:Gc)(n:Nat):Prop where
 s:∀{c:Cc}{E:XK}{X:Cx} (O:XS w g c E X) {fr:Bool}{x:Stmt}{ir:EV.S},cS n c fr x=some ir->PS X x (tS w g c E fr ir)
 ss:∀{c:Cc}{E:XK}{X:Cx} (O:XS w g c E X) {fr:Bool}{x:List Stmt}{ir:Ss},cSs n c fr x=some ir->PSs X x (tSs w g c E fr ir)
section
variable{w:W}{g:Gc}{n:Nat}
theorem eN.ss_succ(ih:eN w g n){c:Cc}{E:XK}{X:Cx}(O:XS w g c E X){fr:Bool}{x:List Stmt}{ir:Ss}(h:cSs (n+1) c fr x=some ir):PSs X x (tSs w g c E fr ir):=by
 match x with
 | []=>simp only[cSs,bB]at h;subst h;exact n6
 |s::r=>
  simp only[cSs,aA,az]at h;obtain⟨ir',h2,h⟩:=h;cases h;cases h1:cS n c fr s with
  |none=>exact jZ ou (ih.ss O h2)
  |some is=>exact jZ (ih.s O h1) (ih.ss O h2)
theorem rR{c:Cc}{x:Str}{i:Nat}(h:c.N[i]? = some x):zr c i↔c.own.contains x=true:=⟨λ⟨y,h1,h2⟩=>by rw[h]at h1;cases h1;exact h2,λh2=>⟨x,h,h2⟩⟩
theorem vE{e:Expr}{x m:Str}{ap cp:Pos}{a:Expr}(h:gC e=some (x,m,ap,a,cp)):∃p,e=.Call (.Attribute (.Name x p) m ap) [a] [] cp:=by
 unfold gC at h;split at h
 ·split at h
  ·split at h
   ·split at h
    ·split at h
     ·rename_i hk;cases h;rw[List.isEmpty_iff]at hk;subst hk;exact⟨_,rfl⟩
     ·cases h
    ·cases h
   ·cases h
  ·cases h
 ·cases h
theorem vX{e:Expr}{x:Str}{a:Expr}{as:List Expr}(h:raiseOf e=some (x,a,as)):∃p q,e=.Call (.Name x p) (a::as) [] q:=by
 unfold raiseOf at h;split at h
 ·split at h
  ·split at h
   ·split at h
    ·rename_i hk;cases h;rw[List.isEmpty_iff]at hk;subst hk;exact⟨_,_,rfl⟩
    ·cases h
   ·cases h
  ·cases h
 ·cases h
theorem eN.s_succ(ih:eN w g n)(hn:n<=100000){c:Cc}{E:XK}{X:Cx}(O:XS w g c E X){fr:Bool}{x:Stmt}{ir:EV.S}(h:cS (n+1) c fr x=some ir):PS X x (tS w g c E fr ir):=by
 have K:=snd (w:=w) (g:=g) n hn;unfold cS at h;split at h
 ·rename_i ts0 e pos
  split at h
  ·rename_i t0
   split at h
   ·-- x = e
    rename_i y p
    split at h
    ·cases h
    rename_i htw
    have htw:gD e=false:=by simpa using htw
    simp only[aA,az]at h;obtain⟨i,hl,ie,h1,h⟩:=h;obtain⟨l1,l2⟩:=dy hl;obtain⟨l3,_⟩:=cU l1;have ho:=rR l3;have hk:((zr c i/\fresh c ie=true/\c.frz=false)\/(¬ zr c i/\esc ie=true))/\ir=.set (.nm i) ie:=by
     split at h
     ·rename_i hy
      split at h
      ·rename_i hf;cases h;exact⟨.inl ⟨ho.mpr hy,by simpa using hf⟩,rfl⟩
      ·cases h
     ·rename_i hy
      split at h
      ·rename_i hf;cases h;exact⟨.inr ⟨λz=>hy (ho.mp z),hf⟩,rfl⟩
      ·cases h
    obtain⟨hk,rfl⟩:=hk;cases hc:cV e with
    |false=>
     refine gB (e:=e) (lL (i:=i) (by rw[O.N];exact O.nd) (by rw[O.N];exact l3) (by unfold L2.Loc;rw[O.nm];rcases l2 with z|z;exact .inl z;exact .inr z.1) (K.e O.toXO h1) (fE hc) ?_) (λ_ _ _ z=>z) (List.getElem?_eq_some_iff.mp l3).1 hk;rcases l2 with z|z
     ·exact .inr (by rw[O.nm];exact z)
     ·exact .inl (O.fn y z.2)
    |true=>
     cases e with
     |ListComp elt gs sc p=>exact tQ O.toXO hn hl h1 htw hk
     |SetComp elt gs sc p=>match n,h1 with
      | 0,h1=>cases h1
      |m+1,h1=>cases h1
     |DictComp a b gs sc p=>match n,h1 with
      | 0,h1=>cases h1
      |m+1,h1=>cases h1
     |_=>cases hc
   ·-- (a, b) = e
    rename_i ts k p
    simp only[aA,az]at h;obtain⟨tg,h1,ie,h2,h⟩:=h;split at h
    ·cases h
    ·rename_i hc
     have hc:((isTup e=true->hU e=true)/\cV e=false)/\esc ie=true:=by simpa using hc
     cases h;refine wU O.toXO (K.e O.toXO h2) (fU O.toXO h1) (kG h1) hc.2 (by simp only[swapsWithSole];exact fE hc.1.2) ?_ rfl;exact rF hc.1.1
   ·-- x[k] = e
    split at h
    ·simp only[aA,az]at h;obtain⟨i,hl,ie,h1,ik,h2,h⟩:=h;split at h
     ·rename_i hc
      simp only[aB,a_]at hc;cases h;exact rk O.toXO hc.2 (dy hl).1 hc.1.1.1.1 (K.e O.toXO h2) (K.e O.toXO h1) hc.1.1.1.2 hc.1.1.2 hc.1.2
     ·cases h
    ·cases h
   ·cases h
  ·cases h
 ·split at h
  ·-- x.insert(k, a)
   rename_i he
   obtain⟨p,rfl⟩:=oj he;simp only[aA,az]at h;obtain⟨i,hl,ik,h0,ia,h1,h⟩:=h;split at h
   ·rename_i hc
    simp only[aB,a_,beq_iff_eq]at hc;cases h;obtain⟨⟨⟨⟨⟨c2,c3⟩,c4⟩,c5⟩,c6⟩,c7⟩:=hc;exact nq O.toXO c7 (dy hl).1 c2 (K.e O.toXO h0) (K.e O.toXO h1) c3 c4 c5 (by simpa using c6)
   ·cases h
  split at h
  ·-- x.append(a)
   rename_i he
   obtain⟨p,rfl⟩:=vE he;simp only[aA,az]at h;obtain⟨i,hl,ia,h1,h⟩:=h;split at h
   ·rename_i hc
    simp only[aB,a_,beq_iff_eq]at hc;cases h;obtain⟨⟨⟨⟨⟨rfl,c2⟩,c3⟩,c4⟩,c5⟩,c6⟩:=hc;exact wV O.toXO c6 (dy hl).1 c2 (K.e O.toXO h1) c3 c4 (by simpa using c5)
   ·cases h
  ·split at h
   ·cases h
   ·rename_i hc
    simp only[aA,az]at h;obtain⟨ie,h1,h⟩:=h;cases h;exact pT (K.e O.toXO h1) (by simpa using hc)
 ·split at h
  ·-- return e
   rename_i e
   simp only[aA,az]at h;obtain⟨ie,h1,h⟩:=h;split at h
   ·rename_i hf
    split at h
    ·rename_i y p
     split at h
     ·rename_i ho
      simp only[a9]at h;obtain⟨i,hl,rfl⟩:=h;exact nD O.toXO hl ho
     ·cases h
    ·split at h
     ·rename_i hfr
      cases h;exact lG (K.e O.toXO h1) λ_=>hfr
     ·cases h
   ·rename_i hf
    cases h;exact lG (K.e O.toXO h1) λz=>absurd z hf
  ·split at h
   ·cases h
   ·rename_i hf
    cases h;exact nN (by simpa using hf)
 ·simp only[aA,az]at h;obtain⟨it,h1,ia,h2,ib,h3,h⟩:=h;cases h;exact ng (K.t O.toXO h1) (ih.ss O h2) (ih.ss O h3)
 ·split at h
  ·cases h
  ·rename_i tg0 it0 b0 els0 pos0 hc
   have hc:(els0=[]/\c.calm=true)/\zl it0=true:=by simpa using hc
   obtain⟨⟨rfl,hc1⟩,hc2⟩:=hc;simp only[aA,az]at h;obtain⟨tg,h1,it,h2,h⟩:=h;split at h
   ·cases h
   ·rename_i ho
    have ho:dQ it tg0=true:=by simpa using ho
    simp only[az]at h;obtain⟨ib,h3,h⟩:=h;cases h;exact wo O.toXO (O.calm hc1) (K.i O.toXO.nox h2 ho) (fU O.toXO.nox h1) (kG h1) (ih.ss O.nox.froze h3) hc2
 ·split at h
  ·cases h
  ·rename_i els0 _ hc
   have hc:els0=[]/\c.calm=true:=by simpa using hc
   obtain⟨rfl,hc⟩:=hc;simp only[aA,az]at h;obtain⟨it,h1,ib,h2,h⟩:=h;cases h;exact rW (K.t O.toXO.nox h1) (ih.ss O.nox h2)
 ·split at h
  ·split at h
   ·rename_i hr
    obtain⟨p0,q0,rfl⟩:=vX hr;split at h
    ·cases h
    ·rename_i hc
     simp only[bL,a_,not_or,Bool.not_eq_false,Option.isNone_iff_eq_none]at hc;obtain⟨⟨rfl,hc1⟩,hc2⟩:=hc;split at h
     ·rename_i hg
      simp only[aA,az]at h;obtain⟨ies,h1,h⟩:=h;cases h;exact rq O (O.calm hc1) hc2 hg (K.es O.toXO h1) h1 (aS (fK h1) hn)
     ·cases h
   ·cases h
  ·cases h
 ·-- try
  split at h
  ·split at h
   ·rename_i b0 els0 fin0 pos0 hs0 y0 h0 hp0 ty0 x0 np0
    split at h
    ·cases h
    ·rename_i hc
     have hc:(((((((els0=[]/\fin0=[])/\c.calm=true)/\c.fnc=true)/\fr=false)/\h0≠[])/\c.own=[])/\c.frz=false):=by simpa using hc
     obtain⟨⟨⟨⟨⟨⟨⟨rfl,rfl⟩,hc1⟩,hc2⟩,rfl⟩,hc3⟩,hc4⟩,hc5⟩:=hc;simp only[aA,az]at h;obtain⟨ib,h1,ihd,h2,h⟩:=h;split at h
     ·cases h
     ·rename_i hg
      have hg:glob c x0=some .exc\/glob c x0=some .exk:=by
       by_cases z:glob c x0=some .exc
       ·exact .inl z
       ·exact .inr (by simpa[z]using hg)
      match h0,hc3,h2 with
      | [],hc3,_=>exact absurd rfl hc3
      |b₀::suite,_,h2=>
       split at h
       ·cases h;exact tZ O hc5 hc4 hg (λEh pn Et O'=>ih.ss O' h1) (λy=>ih.ss (O.held y) h2)
       ·simp only[az]at h;obtain⟨i,hl,h⟩:=h;split at h
        ·rename_i hn
         cases h;exact oY O hc5 hc4 hg (cU (dy hl).1).1 (by simpa using hn) (λEh pn Et O'=>ih.ss O' h1) (λy=>ih.ss (O.held y) h2)
        ·cases h
   ·cases h
  ·cases h
 ·cases h;exact wH
 ·cases h;exact vC
 ·cases h;exact nu
 ·cases h
theorem md:∀n,n<=100000->eN w g n
 | 0,_=>⟨λ_ _ _ _ h=>(by cases h),λ_ _ _ _ h=>by simp[cSs]at h⟩
 |n+1,h=>
  have ih:=md n (Nat.le_of_succ_le h)
  ⟨λO _ _ _ q=>ih.s_succ (Nat.le_of_succ_le h) O q,λO _ _ _ q=>ih.ss_succ O q⟩
end
section
variable{w:W}{g:Gc}{c:Cc}{E:XK}{fr:Bool}{X:Cx}{H0:Hp}{B:Sh}{τ:Env}{σ:L2.St}{H H':Hp}{S:Sh}{n:Nat}
noncomputable def iN(g:Gc)(E:XK)(fr:Bool)(H0:Hp)(B:Sh)(D:Ends):O->Prop
 | .nx _=>∀σ' H',qf H0 H'->D.nx σ' H'
 | .rt d=>∀v H',qf H0 H'->Rep g (hid H' B) d v->(fr=true->Fr g H0 B H' d v)->D.rt v H'
 | .ex k=>∀H' C,qf H0 H'->g.clA k=some C->E (.ref C) none H'
 |_=>False
theorem iN.out{D:Ends}{o:O}(h:iN g E fr H0 B D o):bz g c E fr H0 B H S D o:=by
 cases o with
 |nx t=>exact λσ' H' S' ss _=>h σ' H' ss.same
 |rt d=>exact h
 |ex k=>exact h
 |bk t=>exact h.elim
 |ct t=>exact h.elim
 |no=>exact h.elim
noncomputable def tP(w:W)(g:Gc)(c:Cc)(E:XK)(fr:Bool)(s:Ss):TS:=λD σ H=>∃H0 B τ S,SS g c H0 B τ σ H S/\iN g E fr H0 B D (qe w s τ)
theorem nr(hn:n<=100000)(O:XS w g c E X){x:List Stmt}{ir:Ss}(h:eE n c fr x=some ir):PSs X x (tP w g c E fr ir):=
 PSs.imp ((md n hn).ss O h) λD σ H ⟨H0,B,τ,S,ss,z⟩=>⟨H0,B,τ,S,ss,z.out⟩
end
noncomputable def GM0(p:Pr)(g:Gc)(mg:Str->Option ae)(x:Str):GK->Prop
 | .fn _=>∃f,g.fnA x=some f
 | .val=>∃u v d,mg x=some u/\RelV v u/\p.glb x=some d/\∀H,Rep g H d v
 | .bi b=>mg x=none/\x=b1N b/\∃id,b1V b=.builtin id
 | .rng=>mg x=none/\x = "range"
 | .enum=>mg x=none/\x = "enumerate"
 | .zip=>mg x=none/\x = "zip"
 | .isi=>mg x=none/\x = "isinstance"
 | .ty n b=>mg x=none/\bg x=some (.type n)/\(n∈["int","bool","str","list","tuple"]\/n = "ValueError")/\∀b',b=some b'->x=b1N b'/\b1V b'=.type n
 | .exc=>∃C,mg x=some (.ref C)/\g.clA x=some C/\iP g.K C
 | .exk=>∃C,mg x=some (.ref C)/\g.clA x=some C
 | .set=>mg x=none/\bg x=some (.type "set")
structure Ground(p:Pr)(g:Gc)(G GH GU:List (Str×GK))(mg:Str->Option ae):Prop where
 fn:∀x f,g.fnA x=some f->∃st own fr fd fnn,p.fns x=some fnn/\cFn G GH own fr st=some fnn/\Fun g.K x x st f fd/\Binds g.K fd (argNames (qS st)) []/\bH g.K (.ref f)=true/\mg x=some (.ref f)/\G.lookup x=some (.fn fr)
 gl:∀x k,G.lookup x=some k->GM0 p g mg x k
 gu:∀x k,GU.lookup x=some k->(∀fr,k≠.fn fr)/\k≠.exc/\GM0 p g mg x k
 gh:∀x k,GH.lookup x=some k->GU.lookup x=some k\/∃fr f st own fd fnn,k=.fn fr/\g.fnA x=some f/\p.fns x=some fnn/\eF GU own fr st=some fnn/\Fun g.K x x st f fd/\Binds g.K fd (argNames (qS st)) []/\bH g.K (.ref f)=true/\mg x=some (.ref f)
 sub:∀k cl b,p.sub k cl=some b->∃C cv,g.clA k=some C/\zD g.K C/\aW g.K (.ref C) cv=some b/\match cl with
  | .ty n=>n = "ValueError"/\cv=.type n
  | .ex x=>∃D,g.clA x=some D/\cv=.ref D
 cat:∀k x,p.cat k x=true->∀C D,g.clA k=some C->g.clA x=some D->bj g.K (.ref C) (.ref D)=some true
abbrev wAt(p:Pr)(k:Nat):W:=⟨qa p k,p.glb,p.sub,p.cat⟩
theorem lz{N ps:List Str}{sc:aH}(h:ee N ps sc=true):dE N ps sc:=by
 unfold ee at h;simp only[aB,beq_iff_eq,a_,decide_eq_true_eq,List.all_eq_true,bL,bne_iff_ne,ne_eq]at h;obtain⟨⟨⟨⟨⟨⟨h1,h2⟩,h3⟩,h4⟩,h5⟩,h6⟩,h7⟩:=h;exact⟨h1,h2,h3,h4,h5,h6,h7⟩
theorem nT{G GH:List (Str×GK)}{own:List Str}{fr:Bool}{st:Stmt}{fnn:Fn}(h:cFn G GH own fr st=some fnn):ee (cM (qS st) (qR st)) (argNames (qS st)) (qR st)=true/\(argNames (qS st)).any own.contains=false /\
  ∃b,eE eR ⟨(qR st).names,cM (qS st) (qR st),own,G,true,true,true,GH,[],false⟩ fr (zF st)=some b/\fnn=⟨(argNames (qS st)).length,(cM (qS st) (qR st)).length,fr,b⟩:=by
 unfold cFn at h;dsimp only at h;split at h
 ·cases h
 ·rename_i hc
  simp only[bL,a_,not_or,Bool.not_eq_false,Bool.not_eq_true]at hc;simp only[aA,az,bB]at h;obtain⟨b,h1,h2⟩:=h;exact⟨hc.1,hc.2,b,h1,h2.symm⟩
theorem nH{GU:List (Str×GK)}{own:List Str}{fr:Bool}{st:Stmt}{fnn:Fn}(h:eF GU own fr st=some fnn):ee (cM (qS st) (qR st)) (argNames (qS st)) (qR st)=true/\(argNames (qS st)).any own.contains=false /\
  ∃b,eE eR ⟨(qR st).names,cM (qS st) (qR st),own,GU,false,true,false,[],[],false⟩ fr (zF st)=some b/\fnn=⟨(argNames (qS st)).length,(cM (qS st) (qR st)).length,fr,b⟩:=by
 unfold eF at h;dsimp only at h;split at h
 ·cases h
 ·rename_i hc
  simp only[bL,a_,not_or,Bool.not_eq_false,Bool.not_eq_true]at hc;simp only[aA,az,bB]at h;obtain⟨b,h1,h2⟩:=h;exact⟨hc.1,hc.2,b,h1,h2.symm⟩
section
variable{P:aw}{w:ar}{K:aq}{mg:Str->Option ae}{base:Heap}{N:List Str}{qual:Str}{scope:aH}{f:Addr}{cd:ae}{A:av}{outer:List PySem.Env}{s₀:af}{H₀:Hp}{E:XK}
theorem pJ:Passes (CX1 P w) (dG (CX1 P w) P w K mg base N qual scope f cd A outer s₀ H₀ E) E:=by
 intro pins σ H s e s' I h;obtain⟨x,cls,H',rfl,I',F,q⟩:=fV rfl rfl I rfl h;exact bA.leaves (env:=(dG (CX1 P w) P w K mg base N qual scope f cd A outer s₀ H₀ E).env) (outer:=outer) I' rfl rfl rfl F q
end
theorem GM0.gm{p:Pr}{g:Gc}{mg:Str->Option ae}{x:Str}{k:GK}{P:aw}{wl:ar}{base:Heap}{A:av}{calm:Bool}{n:Nat}(h:GM0 p g mg x k)(hf:∀fr,k≠.fn fr):GM (wAt p n) g P wl mg base A calm x k:=by
 cases k with
 |fn fr'=>exact absurd rfl (hf fr')
 |exc=>obtain⟨C,h1,h2,_⟩:=h;exact⟨C,h1,h2⟩
 |val=>exact h
 |bi b=>exact h
 |rng=>exact h
 |enum=>exact h
 |zip=>exact h
 |isi=>exact h
 |ty n b=>exact h
 |exk=>exact h
 |set=>exact h
theorem lb{w:W}{g:Gc}{c:Cc}{E:XK}{X:Cx}{N ps own:List Str}{sc:aH}{fr:Bool}{body:List Stmt}{b:Ss}(hcN:c.N=N)(hco:c.own=own)(hcz:c.frz=false)(FS:dE N ps sc)(c2:ps.any own.contains=false)(c3:eE eR c fr body=some b)
  (O:XS w g c E X) {vs:List V}{ds:List D}{B:Sh}{H:Hp}{Q:VK} (hB:Sub B H) (rv:za g (hid H B) ds vs) (hl:ds.length=ps.length)
  (h:tR g E H (match qe w b (ds.map some++bt (N.length-ps.length) none)with
   | .nx _=>if fr then .no else .ok .non
   | .rt d=>.ok d
   | .ex c=>.ex c
   |_=>.no) (λd=>∀v H',qf H H'->Rep g (hid H' B) d v->(fr=true->Fr g H B H' d v)->Q v H')) :
  ∃t,PSs X body t/\t {nx:=λ_ H'=>Q .non H',rt:=Q} (start N vs) H:=by
 have hNl:ps.length<=N.length:=by have:=congrArg List.length FS.pre;rw[List.length_take]at this;lia
 refine⟨_,nr (by decide) O c3,H,B,ds.map some++bt (N.length-ps.length) none,⟨λ_=>false,B.h,B.z,B.y⟩,?_,?_⟩
 ·-- at the start
  have hh:hid H ⟨λ_=>false,B.h,B.z,B.y⟩=hid H B:=rfl;have hvl:=rv.length;have par:∀i d,(ds.map some++bt (N.length-ps.length) none)[i]? = some (some d)->i<ps.length/\ds[i]? = some d:=λi d hi=>by
   by_cases hlt:i<ds.length
   ·rw[List.getElem?_append_left (by simpa using hlt),List.getElem?_map]at hi;refine⟨by lia,?_⟩;cases q:ds[i]? with
    |none=>rw[q]at hi;cases hi
    |some e=>rw[q]at hi;simpa using hi
   ·rw[List.getElem?_append_right (by simpa using hlt)]at hi;rw[List.getElem?_replicate]at hi;split at hi<;>cases hi
  have noOwn:∀i d,zr c i->(ds.map some++bt (N.length-ps.length) none)[i]? = some (some d)->False:=λi d ⟨y,h1,h2⟩ hi=>by
   obtain⟨hlt,_⟩:=par i d hi;rw[hcN]at h1;rw[hco]at h2;have:N.take ps.length=ps:=FS.pre;have hy:ps[i]? = some y:=by
    rw[<-this,List.getElem?_take,if_pos hlt];exact h1
   have:=List.any_eq_false.mp c2 y (List.mem_of_getElem? hy);exact this h2
  refine⟨⟨by simp[L2.start];lia,λi d hi=>?_,λa ha=>?_⟩,by simp[hcN];lia,qf.refl _,hB,(λa=>by simp),(λa ha=>by cases ha),(λi d ho hi=>(noOwn i d ho hi).elim),λi j d e a ho _ hi _ _ _=>(noOwn i d ho hi).elim,λz=>by rw[hcz]at z;cases z⟩
  ·obtain⟨hlt,hd⟩:=par i d hi;obtain⟨v,h1,h2⟩:=rv.get hd;have hlt':i<vs.length:=by lia
   refine⟨v,?_,.inl h2,λ_ _ _=>h2⟩;unfold L2.start;rw[List.getElem?_append_left (by simpa using hlt'),List.getElem?_map,h1]
   rfl
  ·refine hB a ?_;rcases ha with ha|ha
   ·exact .inl ha
   ·cases ha
 ·-- at the end
  cases q:qe w b (ds.map some++bt (N.length-ps.length) none)with
  |nx τ'=>
   rw[q]at h;simp only at h;cases fr with
   |true=>exact h.elim
   |false=>exact λσ' H' hs=>h .non H' hs .non (by intro z;cases z)
  |rt d=>rw[q]at h;exact h
  |ex z=>rw[q]at h;exact h
  |bk z=>rw[q]at h;exact h.elim
  |ct z=>rw[q]at h;exact h.elim
  |no=>rw[q]at h;exact h.elim
section
variable{p:Pr}{g:Gc}{G GH GU:List (Str×GK)}{mg:Str->Option ae}{P:aw}{wl:ar}{base:Heap}
theorem Ground.okU(T:Ground p g G GH GU mg):∀(k:Nat) (x:Str) (f:Addr) (st:Stmt) (own:List Str) (fr:Bool) (fd:a8) (fnn:Fn),p.fns x=some fnn->eF GU own fr st=some fnn->Fun g.K x x st f fd ->
  eI P wl g.K mg base (CX1 P wl) k f fd (argNames (qS st)) (spF (wAt p k) g x fr)
 | 0,x,f,st,own,fr,fd,fnn,_,_,_=>⟨λvs H Q E ⟨S,ds,_,_,h⟩=>h.elim,λA outer s H args us vs Q E _ _ _ _ ⟨S,ds,_,_,h⟩=>h.elim⟩
 |k+1,x,f,st,own,fr,fd,fnn,hf,hc,F=>by
  obtain⟨c1,c2,b,c3,rfl⟩:=nH hc;have FS:=lz c1;generalize hN:cM (qS st) (qR st)=N at *;generalize hps:argNames (qS st)=ps at *;have call:∀ds,qa p (k+1) x ds=zP (wAt p k) ⟨ps.length,N.length,fr,b⟩ ds:=λds=>by simp only[qa,hf]
  have lenOf:∀vs H Q E,spF (wAt p (k+1)) g x fr vs H Q E->vs.length=ps.length:=λvs H Q E ⟨S,ds,_,r,h⟩=>by
   have h:tR g E H (qa p (k+1) x ds) _:=h;rw[call]at h;unfold zP at h;by_cases hl:ds.length=ps.length
   ·rw[<-r.length];exact hl
   ·rw[if_neg hl]at h;exact h.elim
  obtain⟨oc,od,kV,doc,pm,an,cdv,ct,osl,rfl,lk,hcd⟩:=F.ex;refine ow lk hcd FS lenOf λA outer s H vs Q E hr hsp=>?_
  obtain⟨B,ds,hB,rv,h⟩:=hsp;have h:tR g E H (qa p (k+1) x ds) (λd=>∀v H',qf H H'->Rep g (hid H' B) d v->(fr=true->Fr g H B H' d v)->Q v H'):=h;rw[call]at h;unfold zP at h;by_cases hl:ds.length=ps.length
  ·rw[if_pos hl]at h;have O:XS (wAt p k) g ⟨(qR st).names,N,own,GU,false,true,false,[],[],false⟩ E (dG (CX1 P wl) P wl g.K mg base N x (qR st) f cdv A outer s H E):=
    ⟨⟨rfl,rfl,rfl,FS.nd,(λz=>by cases z),by have:=hr.un;show (A.deeper _).units+64<_;lia,λ_ _=>rfl,FS.kind,pJ,λy ky hy=>(T.gu y ky hy).2.2.gm (T.gu y ky hy).1,(λz=>by cases z),T.sub⟩,(λz=>by cases z),λy C hy _=>absurd rfl (T.gu y .exc hy).2.1,T.cat,⟨rfl,rfl,rfl⟩,λy k z=>by cases z⟩
   exact lb rfl rfl rfl FS c2 c3 O hB rv hl h
  ·rw[if_neg hl]at h;exact h.elim
theorem Ground.ok(T:Ground p g G GH GU mg):∀(k:Nat) (x:Str) (f:Addr) (st:Stmt) (own:List Str) (fr:Bool) (fd:a8) (fnn:Fn),p.fns x=some fnn->cFn G GH own fr st=some fnn->Fun g.K x x st f fd ->
  dj P wl g.K mg base (CX1 P wl) k f fd (argNames (qS st)) (spF (wAt p k) g x fr)
 | 0,x,f,st,own,fr,fd,fnn,_,_,_=>⟨λvs H Q E ⟨S,ds,_,_,h⟩=>h.elim,λA outer s H args us vs Q E _ _ _ _ ⟨S,ds,_,_,h⟩=>h.elim⟩
 |k+1,x,f,st,own,fr,fd,fnn,hf,hc,F=>by
  obtain⟨c1,c2,b,c3,rfl⟩:=nT hc;have FS:=lz c1;generalize hN:cM (qS st) (qR st)=N at *;generalize hps:argNames (qS st)=ps at *;have call:∀ds,qa p (k+1) x ds=zP (wAt p k) ⟨ps.length,N.length,fr,b⟩ ds:=λds=>by simp only[qa,hf]
  have lenOf:∀vs H Q E,spF (wAt p (k+1)) g x fr vs H Q E->vs.length=ps.length:=λvs H Q E ⟨S,ds,_,r,h⟩=>by
   have h:tR g E H (qa p (k+1) x ds) _:=h;rw[call]at h;unfold zP at h;by_cases hl:ds.length=ps.length
   ·rw[<-r.length];exact hl
   ·rw[if_neg hl]at h;exact h.elim
  refine F.ok1 FS lenOf λcdv A outer s H vs Q E hr hsp=>?_
  obtain⟨B,ds,hB,rv,h⟩:=hsp;have h:tR g E H (qa p (k+1) x ds) (λd=>∀v H',qf H H'->Rep g (hid H' B) d v->(fr=true->Fr g H B H' d v)->Q v H'):=h;rw[call]at h;unfold zP at h;by_cases hl:ds.length=ps.length
  ·rw[if_pos hl]at h
   -- the ground of the body
   have calls:∀y fy,g.fnA y=some fy->∃fry,G.lookup y=some (.fn fry)/\fR (wAt p k) g P wl mg base (A.deeper (envOfC x (qR st) s.heap.objs.size f cdv)) true y fy fry:=λy fy hy=>by
    obtain⟨sty,owny,fry,fdy,fny,z1,z2,z3,z4,z5,z6,z7⟩:=T.fn y fy hy;exact⟨fry,z7,z6,z5,k,fdy,_,z4,.inl ⟨rfl,Ground.ok T k y fy sty owny fry fdy fny z1 z2 z3,hr⟩⟩
   have O:XS (wAt p k) g ⟨(qR st).names,N,own,G,true,true,true,GH,[],false⟩ E (cf (CX1 P wl) P wl g.K mg base N x (qR st) f cdv A outer s H E):=by
    refine⟨⟨rfl,rfl,rfl,FS.nd,λ_=>rfl,hr.units,λ_ _=>rfl,FS.kind,rS,λy ky hy=>?_,λ_ y fy hy=>?_,T.sub⟩,λ_=>uI,λy C hy hC=>?_,T.cat,⟨rfl,rfl,rfl⟩,λy ky hy=>?_⟩
    ·have:=T.gl y ky hy;by_cases hf:∃fr,ky=.fn fr
     ·obtain⟨fr',rfl⟩:=hf;obtain⟨fy,h1⟩:=this;obtain⟨fry,h2,h3⟩:=calls y fy h1;have hy:G.lookup y=some (.fn fr'):=hy;rw[hy]at h2;cases h2;exact⟨fy,h1,h3⟩
     ·exact this.gm λfr z=>hf ⟨fr,z⟩
    ·obtain⟨fry,_,h3⟩:=calls y fy hy;exact⟨fry,h3⟩
    ·obtain⟨C',_,h2,h3⟩:=T.gl y .exc hy;rw[h2]at hC;cases hC;exact h3
    ·rcases T.gh y ky hy with z|⟨fr',fy,sty,owny,fdy,fny,rfl,z1,z2,z3,z4,z5,z6,z7⟩
     ·obtain⟨u1,u2,u3⟩:=T.gu y ky z;exact⟨u2,λv=>u3.gm u1⟩
     ·exact⟨by simp,λv=>⟨fy,z1,z7,z6,k,fdy,_,z5,.inr ⟨rfl,Ground.okU T k y fy sty owny fr' fdy fny z2 z3 z4,hr.mark v⟩⟩⟩
   exact lb rfl rfl rfl FS c2 c3 O hB rv hl h
  ·rw[if_neg hl]at h;exact h.elim
end
end EV
namespace WB
open PySem PySem.Spec PyProof.Rows L2
structure Dd(K:aq)(n:Str)(st:Stmt)(f:Addr):Prop where
 a:ai K ah n=some (some (.ref f))
 l:∃oc od an sl kV dc pm cd ct,K.lookup f=some ⟨oc,od,.func (bw n n (qS st) (zF st) (qR st) .none kV dc pm an cd ct),sl⟩/\PySem.W.codeIn K cd n=true
 k:bH K (.ref f)=true
theorem zq{K:aq}{n:Str}{st:Stmt}{f:Addr}{od an:Option Addr}{sl:Array (Option ae)}{oc kV dc pm cd ct:ae}(a:ai K ah n=some (some (.ref f)))
  (l:K.lookup f=some ⟨oc,od,.func (bw n n (qS st) (zF st) (qR st) .none kV dc pm an cd ct),sl⟩) (c:PySem.W.codeIn K cd n=true) (k:bH K (.ref f)=true):Dd K n st f:=
 ⟨a,⟨oc,od,an,sl,kV,dc,pm,cd,ct,l,c⟩,k⟩
theorem Dd.fn{K:aq}{n:Str}{st:Stmt}{f:Addr}(d:Dd K n st f):∃fd,Fun K n n st f fd:=by
 obtain⟨oc,od,an,sl,kV,dc,pm,cd,ct,l,c⟩:=d.l;exact⟨_,jf (st:=st) l c d.k⟩
theorem ma{K:aq}{C:Addr}{c:ae}{dd:Option Addr}{cd:PySem.ClassData}{sl:Array (Option ae)}(s1:PySem.W.findIn K (.ref C) "__getattribute__" = some (some (.builtin "BaseException.__getattribute__")))
  (s2:PySem.W.findIn K (.ref C) "__getattr__" = some none) (s3:PySem.W.findIn K (.ref C) "__class__" = some (some (.builtin "object.__class__"))) (s4:PySem.W.mroIn K C (.type "BaseException")=some true) (s5:PySem.W.mroIn K C (.type "object")=some true)
  (s6:K.lookup C=some ⟨c,dd,.cls cd,sl⟩):zD K C:=⟨s1,s2,s3,s4,s5,⟨c,dd,cd,sl,s6⟩⟩
theorem jx{K:aq}{C:Addr}:aW K (.ref C) (.ref C)=some true:=by
 unfold aW;rw[if_pos (beq_self_eq_true _)]
theorem jy{K:aq}{C:Addr}(s:ax K (.ref C) (.type "ValueError")=some true):aW K (.ref C) (.type "ValueError")=some true:=by
 unfold aW;rw[if_neg (λz=>by have:=eq_of_beq z;cases this)];show (if PySem.W.kitMeta "ValueError" = true then ax K (.ref C) (.type "ValueError")else none)=_;rw[if_pos (by decide +kernel)];exact s
theorem kJ{K:aq}{C D:Addr}{x:PySem.ClassData}(u:ax K (.ref D) (.type "BaseException")=some true)(c:PySem.W.clsIn K D=some x)(t:PySem.W.typeIn K (.ref D)=some (.type "type"))(s:ax K (.ref C) (.ref D)=some true) :
  bj K (.ref C) (.ref D)=some true:=by
 unfold bj;rw[u,if_pos (by decide)];show (if ((PySem.W.clsIn K D).isSome&&PySem.W.typeIn K (.ref D)==some (.type "type"))=true then ax K (.ref C) (.ref D)else none)=_;rw[c,t,if_pos (by rw[beq_self_eq_true];rfl)];exact s
theorem kR{us:List ae}(h:us.length=1):∃a,us=[a]:=List.length_eq_one_iff.mp h
theorem kg{n:Nat}{us:List ae}(h:us.length=n+1):∃a r,us=a::r/\r.length=n:=by
 cases us with
 |nil=>cases h
 |cons a r=>exact⟨a,r,rfl,Nat.succ.inj h⟩
theorem jj{us:List ae}(h:us.length=2):∃a b,us=[a,b]:=by
 obtain⟨a,r,e,h⟩:=kg h;obtain⟨b,q⟩:=kR h;subst q;exact⟨a,b,e⟩
theorem nQ{us:List ae}(h:us.length=3):∃a b c,us=[a,b,c]:=by
 obtain⟨a,r,e,h⟩:=kg h;obtain⟨b,c,q⟩:=jj h;subst q;exact⟨a,b,c,e⟩
structure Dk(K:aq)(n:Str)(D:Addr):Prop where
 a:ai K ah n=some (some (.ref D))
 c:∃x,PySem.W.clsIn K D=some x
 t:PySem.W.typeIn K (.ref D)=some (.type "type")
theorem bV{K:aq}{n:Str}{D:Addr}{x:PySem.ClassData}(a:ai K ah n=some (some (.ref D)))(c:PySem.W.clsIn K D=some x)(t:PySem.W.typeIn K (.ref D)=some (.type "type")):Dk K n D:=⟨a,⟨x,c⟩,t⟩
theorem Dk.kit{K:aq}{n:Str}{C D:Addr}{b:Bool}(d:Dk K n D)(s:ax K (.ref C) (.ref D)=some b)(ne:C≠D):aW K (.ref C) (.ref D)=some b:=by
 obtain⟨x,c⟩:=d.c;unfold aW;rw[if_neg (λz=>ne (by have:=eq_of_beq z;injection this))];show (if ((PySem.W.clsIn K D).isSome&&PySem.W.typeIn K (.ref D)==some (.type "type"))=true then ax K (.ref C) (.ref D)else none)=_;rw[c,d.t,if_pos (by rw[beq_self_eq_true];rfl)];exact s
end WB
namespace EV
open PySem PySem.Spec PySem.P PyProof.Rows L2
structure Ent where
 x:Str
 st:Stmt
 own:List Str
 fr:Bool
 fn:Fn
noncomputable def prT(tab:List Ent)(vals:List (Str×D))(bO:List (Str×Str))(subs:List ((Str×Cl)×Bool):=[]):Pr:=⟨λx=>(tab.find? (·.x==x)).map (·.fn),λx=>vals.lookup x,λk c=>subs.lookup (k,c),λk x=>bO.contains (k,x)⟩
noncomputable def unx:GK->GK
 | .exc=>.exk
 |k=>k
noncomputable def cR(oth:List (Str×GK)):List (Str×GK):=oth.map λy=>(y.1,unx y.2)
noncomputable def dJ(us:List Ent)(oth:List (Str×GK)):List (Str×GK):=us.map (λe=>(e.x,GK.fn e.fr))++cR oth
theorem lj{x:Str}{k:GK}:∀{oth:List (Str×GK)},(cR oth).lookup x=some k->∃k0,oth.lookup x=some k0/\k=unx k0
 | [],h=>by cases h
 | (y,k1)::r,h=>by
  have h:List.lookup x ((y,unx k1)::cR r)=some k:=h;rw[aV]at h;split at h
  ·rename_i q;cases h;exact⟨k1,by rw[aV,q],rfl⟩
  ·rename_i q
   obtain⟨k0,h1,h2⟩:=lj h;exact⟨k0,by rw[aV,q];exact h1,h2⟩
theorem kA{x:Str}{k:GK}{oth:List (Str×GK)}:∀{us:List Ent},(dJ us oth).lookup x=some k->(∃e∈us,e.x=x/\k=.fn e.fr)\/(cR oth).lookup x=some k
 | [],h=>.inr h
 |a::r,h=>by
  have h:List.lookup x ((a.x,GK.fn a.fr)::dJ r oth)=some k:=h;rw[aV]at h;split at h
  ·rename_i q;cases h;exact .inl ⟨a,aM,(eq_of_beq q).symm,rfl⟩
  ·rcases kA h with ⟨e,h1,h2⟩|h1
   ·exact .inl ⟨e,aL _ h1,h2⟩
   ·exact .inr h1
noncomputable def cA(K:aq)(ns:List Str)(x:Str):Option Addr:=if ns.contains x then (match ai K ah x with
 |some (some (.ref f))=>some f
 |_=>none)else none
noncomputable def gOf(K:aq)(fns cls:List Str):Gc:=⟨K,cA K fns,cA K cls⟩
theorem fm{K:aq}{ns:List Str}{x:Str}{f:Addr}(h:ai K ah x=some (some (.ref f)))(hx:ns.contains x=true):cA K ns x=some f:=by
 unfold cA;rw[if_pos hx,h]
theorem iw{K:aq}{ns:List Str}{x:Str}{f:Addr}(h:cA K ns x=some f):ns.contains x=true/\ai K ah x=some (some (.ref f)):=by
 unfold cA at h;split at h
 ·rename_i hx
  split at h
  ·rename_i q;cases h;exact⟨hx,q⟩
  ·cases h
 ·cases h
noncomputable def Bnd(e:Ent):Prop:=∀(kV doc pm:ae) (an:Option Addr) (cdv ct:ae) (us:List ae),us.length=(argNames (qS e.st)).length->bindArgs (bw e.x e.x (qS e.st) (zF e.st) (qR e.st) .none kV doc pm an cdv ct) ⟨us,[]⟩=pure ((argNames (qS e.st)).zip us)
structure eS(K:aq)(G:List (Str×GK))(e:Ent):Prop where
 dd:∃f,WB.Dd K e.x e.st f
 bnd:Bnd e
noncomputable def lU(K:aq)(vals:List (Str×D))(x:Str):GK->Prop
 | .fn _=>True
 | .val=>∃u v d,ai K ah x=some (some u)/\RelV v u/\vals.lookup x=some d/\∀g H,g.K=K->Rep g H d v
 | .bi b=>ai K ah x=some none/\x=b1N b/\∃id,b1V b=.builtin id
 | .rng=>ai K ah x=some none/\x = "range"
 | .enum=>ai K ah x=some none/\x = "enumerate"
 | .zip=>ai K ah x=some none/\x = "zip"
 | .isi=>ai K ah x=some none/\x = "isinstance"
 | .ty n b=>ai K ah x=some none/\bg x=some (.type n)/\(n∈["int","bool","str","list","tuple"]\/n = "ValueError")/\∀b',b=some b'->x=b1N b'/\b1V b'=.type n
 | .exc=>∃C,ai K ah x=some (some (.ref C))/\PySem.W.excIn K C er "ValueError.__new__" = true
 | .exk=>∃C,ai K ah x=some (some (.ref C))
 | .set=>ai K ah x=some none/\bg x=some (.type "set")
noncomputable def lN(K:aq)(cls:List Str)(y:(Str×Cl)×Bool):Prop:=∃C cv,cls.contains y.1.1=true/\ai K ah y.1.1=some (some (.ref C))/\zD K C/\aW K (.ref C) cv=some y.2/\match y.1.2 with
 | .ty n=>n = "ValueError"/\cv=.type n
 | .ex x=>∃D,cls.contains x=true/\ai K ah x=some (some (.ref D))/\cv=.ref D
theorem jD{α β:Type} [BEq α] [LawfulBEq α]{a:α}{b:β}:∀{l:List (α×β)},l.lookup a=some b->(a,b)∈l
 | (c,d)::r,h=>by
  rw[aV]at h;split at h
  ·rename_i q;cases h;rw[eq_of_beq q];exact aM
  ·exact aL _ (jD h)
theorem i6{tab:List Ent}{e:Ent}(hn:(tab.map (·.x)).Nodup)(he:e∈tab):tab.find? (·.x==e.x)=some e:=by
 induction tab with
 |nil=>simp at he
 |cons a r ih=>
  simp only[aY,List.nodup_cons]at hn;rw[List.find?_cons];rcases aI.mp he with rfl|h
  ·simp
  ·have:(a.x==e.x)=false:=by
    cases q:a.x==e.x with
    |false=>rfl
    |true=>
     have:=eq_of_beq q;exact absurd (this▸aQ.mpr ⟨e,h,rfl⟩) hn.1
   rw[this];exact ih hn.2 h
theorem oy{K:aq}{h:Heap}{mg:Str->Option ae}(X:K.In h)(N:h.Ns ah mg){tab:List Ent}{oth G:List (Str×GK)}{vals:List (Str×D)}(hG:G=tab.map (λe=>(e.x,GK.fn e.fr))++oth)
  (hnd:(tab.map (·.x)).Nodup) (ho:∀x k,oth.lookup x=some k->lU K vals x k) (hof:∀x fr,oth.lookup x≠some (.fn fr)) {us:List Ent} (hus:∀e∈us,e∈tab) (hcu:∀e∈us,eF (cR oth) e.own e.fr e.st=some e.fn) (hc:∀e∈tab,cFn G (dJ us oth) e.own e.fr e.st=some e.fn) (he:∀e∈tab,eS K G e) (cls:List Str) {bO:List (Str×Str)} (hcat:∀y∈bO,∃C D,ai K ah y.1=some (some (.ref C))/\ai K ah y.2=some (some (.ref D))/\bj K (.ref C) (.ref D)=some true) (hcl:∀x,(oth.lookup x=some .exc\/oth.lookup x=some .exk)->cls.contains x=true)
  {subs:List ((Str×Cl)×Bool)} (hsub:∀y∈subs,lN K cls y) :
  Ground (prT tab vals bO subs) (gOf K (tab.map (·.x)) cls) G (dJ us oth) (cR oth) mg:=by
 have lk:∀x k,G.lookup x=some k->(∃e∈tab,e.x=x/\k=.fn e.fr)\/oth.lookup x=some k:=by
  subst hG;clear hnd hc he hus
  induction tab with
  |nil=>intro x k hx;exact .inr hx
  |cons a r ih=>
   intro x k hx;simp only[aY,List.cons_append,aV]at hx;split at hx
   ·rename_i q;cases hx;exact .inl ⟨a,aM,(eq_of_beq q).symm,rfl⟩
   ·rcases ih x k hx with ⟨e,h1,h2⟩|h1
    ·exact .inl ⟨e,aL _ h1,h2⟩
    ·exact .inr h1
 have lkE:∀e∈tab,G.lookup e.x=some (.fn e.fr):=by
  subst hG;clear hc he lk hus
  induction tab with
  |nil=>intro e h;simp at h
  |cons a r ih=>
   intro e hm;simp only[aY,List.nodup_cons]at hnd;simp only[aY,List.cons_append,aV];rcases aI.mp hm with rfl|hm
   ·rw[beq_self_eq_true]
   ·have:(e.x==a.x)=false:=by
     cases q:e.x==a.x with
     |false=>rfl
     |true=>exact absurd ((eq_of_beq q)▸aQ.mpr ⟨e,hm,rfl⟩) hnd.1
    rw[this];exact ih hnd.2 e hm
 have hca:∀k x,bO.contains (k,x)=true->∀C D,cA K cls k=some C->cA K cls x=some D->bj K (.ref C) (.ref D)=some true:=λk x z C D h1 h2=>by
  obtain⟨C',D',e1,e2,e3⟩:=hcat (k,x) (by simpa using z);have a1:=(iw h1).2;have a2:=(iw h2).2;rw[e1]at a1;rw[e2]at a2;cases a1;cases a2;exact e3
 have fnd:∀e∈tab,∃f fd,cA K (tab.map (·.x)) e.x=some f/\Fun K e.x e.x e.st f fd/\Binds K fd (argNames (qS e.st)) []/\bH K (.ref f)=true/\mg e.x=some (.ref f):=λe hm=>by
  obtain⟨⟨f',d⟩,hb⟩:=he e hm;obtain⟨fd,F⟩:=d.fn;exact⟨f',fd,fm d.a (by simpa using aQ.mpr ⟨e,hm,rfl⟩),F,F.binds hb,d.k,PySem.W.mg_of X N d.a⟩
 have fne:∀e∈tab,(prT tab vals bO subs).fns e.x=some e.fn:=λe hm=>by show (tab.find? (·.x==e.x)).map (·.fn)=_;rw[i6 hnd hm];rfl
 have gl:∀x k,oth.lookup x=some k->GM0 (prT tab vals bO subs) (gOf K (tab.map (·.x)) cls) mg x k:=λx k hk=>by
  have:=ho x k hk;cases k with
  |fn fr=>exact absurd hk (hof x fr)
  |val=>obtain⟨u,v,d,h1,h2,h3,h4⟩:=this;exact⟨u,v,d,PySem.W.mg_of X N h1,h2,h3,λH=>h4 _ H rfl⟩
  |bi b=>exact⟨b8 X N this.1,this.2⟩
  |rng=>exact⟨b8 X N this.1,this.2⟩
  |enum=>exact⟨b8 X N this.1,this.2⟩
  |zip=>exact⟨b8 X N this.1,this.2⟩
  |isi=>exact⟨b8 X N this.1,this.2⟩
  |ty n b=>exact⟨b8 X N this.1,this.2⟩
  |exc=>obtain⟨C,h1,h2⟩:=this;exact⟨C,PySem.W.mg_of X N h1,fm h1 (hcl x (.inl hk)),h2⟩
  |exk=>obtain⟨C,h1⟩:=this;exact⟨C,PySem.W.mg_of X N h1,fm h1 (hcl x (.inr hk))⟩
  |set=>exact⟨b8 X N this.1,this.2⟩
 refine⟨λx f hf=>?_,λx k hx=>?_,λx k hx=>?_,λx k hx=>?_,λk cl b z=>?_,hca⟩
 ·obtain⟨h1,h2⟩:=iw hf;obtain⟨e,hm,rfl⟩:=aQ.mp (by simpa using h1:x∈tab.map (·.x));obtain⟨f',fd,z1,z2,z3,z4,z5⟩:=fnd e hm;have hf:cA K (tab.map (·.x)) e.x=some f:=hf;rw[hf]at z1;cases z1;exact⟨e.st,e.own,e.fr,fd,e.fn,fne e hm,hc e hm,z2,z3,z4,z5,lkE e hm⟩
 ·rcases lk x k hx with ⟨e,hm,rfl,rfl⟩|hk
  ·obtain⟨f',fd,z1,_⟩:=fnd e hm;exact⟨f',z1⟩
  ·exact gl x k hk
 ·obtain⟨k0,h1,rfl⟩:=lj hx;have:=gl x k0 h1;cases k0 with
  |fn fr=>exact absurd h1 (hof x fr)
  |exc=>obtain⟨C,z1,z2,_⟩:=this;exact⟨by simp[unx],by simp[unx],⟨C,z1,z2⟩⟩
  |_=>exact⟨by simp[unx],by simp[unx],this⟩
 ·rcases kA hx with ⟨e,hm,rfl,rfl⟩|hk
  ·obtain⟨f',fd,z1,z2,z3,z4,z5⟩:=fnd e (hus e hm);exact .inr ⟨e.fr,f',e.st,e.own,fd,e.fn,rfl,z1,fne e (hus e hm),hcu e hm,z2,z3,z4,z5⟩
  ·exact .inl hk
 ·have z:subs.lookup (k,cl)=some b:=z;obtain⟨C,cv,h0,h1,h2,h3,h4⟩:=hsub _ (jD z);refine⟨C,cv,fm h1 h0,h2,h3,?_⟩;cases cl with
  |ty n=>exact h4
  |ex x=>obtain⟨D,d0,d1,d2⟩:=h4;exact⟨D,fm d1 d0,d2⟩
theorem tF{l:PySem.W.OpenLaw}{q:aw}{loose:List Str}{XP:(Str->Option ae)->Heap->Prop}{YP:ar->Heap->Prop}{d:DefRec}{K:Params->aq}{tab:List Ent}{G:List (Str×GK)}{vals:List (Str×D)}{cls:List Str}{bO:List (Str×Str)}{subs:List ((Str×Cl)×Bool)}{GH GU:List (Str×GK)}{e:Ent}{k:Nat}
  (hn:l.most=some 63) (hdf:d.params.defaults=[]) (hd:d.name=e.x) (hr:bC k callerA) (hY:∀(w:ar) (h:Heap),YP w h->(K w.params).In h) (hm:e∈tab) (hnd:(tab.map (·.x)).Nodup) (hx:e.x = "law") (hfr:e.fr=false) (hp:argNames (qS e.st)=[("_law_script" : Str)])
  (hG:∀(w:ar) (mg:Str->Option ae) (h:Heap),(K w.params).In h->h.Ns ah mg->Ground (prT tab vals bO subs) (gOf (K w.params) (tab.map (·.x)) cls) G GH GU mg/\eS (K w.params) G e) (hc:cFn G GH e.own e.fr e.st=some e.fn)
  (hlaw:∀ns:List Int,ns.length<=63->qa (prT tab vals bO subs) k "law" [.lst (ns.map D.int)]=.ok (.bl true)) :
  PySem.W.WalkO q loose XP YP l.row.toRowW d [] (λf vs=>PySem.call f vs):=by
 refine L2.sv (n:=63) (k:=k) (x:="_law_script") (CX:=λw=>CX1 l.prog w) (sp:=λw=>spF (wAt (prT tab vals bO subs) k) (gOf (K w.params) (tab.map (·.x)) cls) "law" false) hn (by decide) hdf hr hY (λw mg fa h KX N hfa=>?_) (λw H a ns hl _ hS=>?_) λw H s e s' z=>?_
 ·obtain⟨T,⟨f,dd⟩,hb⟩:=hG w mg h KX N;have e1:=hfa.symm.trans (hd▸PySem.W.mg_of KX N dd.a);cases e1;obtain⟨oc,od,an,sl,kV,dc,pm,cd,ct,lk,hcd⟩:=dd.l;refine⟨bw e.x e.x (qS e.st) (zF e.st) (qR e.st) .none kV dc pm an cd ct,λs u=>.of_eq ?_,λbase _ _=>?_⟩
  ·have:=hb kV dc pm an cd ct [u] (by rw[hp];rfl);rw[hp]at this;exact this
  ·have:=T.ok (P:=l.prog) (wl:=w) (base:=base) k e.x fa e.st e.own e.fr _ e.fn (by show (tab.find? (·.x==e.x)).map (·.fn)=_;rw[i6 hnd hm];rfl) hc (jf (st:=e.st) lk hcd dd.k);rw[hp,hx,hfr]at this;rw[hx];exact this
 ·refine⟨⟨λ_=>false,λ_=>false,[],λ_=>none⟩,[.lst (ns.map D.int)],(λa z=>by rcases z with z|z<;>cases z),.cons (.lst (xs:=ns.map V.int) ?_ (za.ofInts _)) .nil,?_⟩
  ·have:hid H ⟨λ_=>false,λ_=>false,[],λ_=>none⟩=H:=by funext b;unfold hid;rw[if_neg (by simp)]
   rw[this];exact hS
  ·show tR _ _ _ (qa (prT tab vals bO subs) k "law" [.lst (ns.map D.int)]) _;rw[hlaw ns hl];intro v H' _ r _;cases r;rfl
 ·obtain⟨_,_,_,_,_,_,_,_,_,z⟩:=z;exact z
end EV
namespace KG
open EV
open PySem (Str)
open L2 (atI ixN ltP)
abbrev prD:Int×Int->D:=EV.pairD
theorem qz{w:W}{f:Fn}{ds:List D}{d:D}{τ:Env}(hl:ds.length=f.ps)(hτ:ds.map some++bt (f.N-f.ps) none=τ)(h:qe w f.body τ=.rt d):zP w f ds=.ok d:=by
 rw[zP,if_pos hl,hτ,h]
theorem zX{w:W}{s:S}{r:Ss}{τ σ:Env}{o:O}(h:evS w s τ=.nx σ)(h':qe w r σ=o):qe w (.cons s r) τ=o:=by rw[qe,h];exact h'
theorem dO{w:W}{it:It}{cap:List (Option Nat)}{t:T}{elt:E}{τ c:Env}{ds:List D}{g:D->List D}(h:evI w it τ=.ok ds)(hz:ds.length<=SZ)(hc:cc cap τ=none::none::c)
  (hb:∀x∈ds,((evT w t (none::some x::c)).bind λr=>if r then (evE w elt (none::some x::c)).bind λd=>.ok [d]else .ok [])=.ok (g x)):evE w (.comp it cap (.nm 1) t elt) τ=.ok (.lst (ds.flatMap g)):=by
 have key:∀(l:List D) (v:Option D) (acc:List D),(∀x∈l,x∈ds)->zC (λx σ=>noEx ((store (.nm 1) x σ).bind λσ'=>(evT w t σ').bind λr=>if r then (evE w elt σ').bind λd=>.ok (σ',[d])else .ok (σ',[]))) l (none::v::c) acc=.ok (acc++l.flatMap g):=by
  intro l
  induction l with
  |nil=>intro v acc _;simp[zC]
  |cons x r ih=>
   intro v acc hm;have q:=hb x (hm x aM);rw[zC];have e:noEx ((store (.nm 1) x (none::v::c)).bind λσ'=>(evT w t σ').bind λr=>if r then (evE w elt σ').bind λd=>.ok (σ',[d])else .ok (σ',[]))=.ok (none::some x::c,g x):=by
    simp only[store,R.bind_ok,List.set_cons_succ,List.set_cons_zero];cases ht:evT w t (none::some x::c)with
    |ok b=>
     rw[ht]at q;simp only[R.bind_ok]at q ⊢;cases b
     ·simp at q ⊢;rw[<-q];rfl
     ·simp only[if_true]at q ⊢;cases he:evE w elt (none::some x::c)with
      |ok d=>rw[he]at q;simp only[R.bind_ok,R.ok.injEq]at q ⊢;rw[<-q];rfl
      |ex=>rw[he]at q;cases q
      |no=>rw[he]at q;cases q
    |ex=>rw[ht]at q;cases q
    |no=>rw[ht]at q;cases q
   rw[e];simp only[R.bind_ok];rw[ih (some x) _ λy hy=>hm y (aL _ hy),List.flatMap_cons,List.append_assoc]
 rw[qr,h];simp only[R.bind_ok];rw[if_neg (by lia),hc,key ds none [] λ_ h=>h]
 rfl
theorem comp2{w:W}{it:It}{cap:List (Option Nat)}{t:T}{elt:E}{τ c:Env}{ds:List D}{g:D->List D}(h:evI w it τ=.ok ds)(hz:ds.length<=SZ)(hc:cc cap τ=none::none::none::c)
  (hb:∀x∈ds,∃a b,x=.tup [a,b]/\((evT w t (none::some a::some b::c)).bind λr=>if r then (evE w elt (none::some a::some b::c)).bind λd=>.ok [d]else .ok [])=.ok (g x)):evE w (.comp it cap (.tp [1,2]) t elt) τ=.ok (.lst (ds.flatMap g)):=by
 have key:∀(l:List D) (v u:Option D) (acc:List D),(∀x∈l,x∈ds)->zC (λx σ=>noEx ((store (.tp [1,2]) x σ).bind λσ'=>(evT w t σ').bind λr=>if r then (evE w elt σ').bind λd=>.ok (σ',[d])else .ok (σ',[]))) l (none::v::u::c) acc=.ok (acc++l.flatMap g):=by
  intro l
  induction l with
  |nil=>intro v u acc _;simp[zC]
  |cons x r ih=>
   intro v u acc hm;obtain⟨a,b,rfl,q⟩:=hb x (hm x aM);rw[zC];have e:noEx ((store (.tp [1,2]) (.tup [a,b]) (none::v::u::c)).bind λσ'=>(evT w t σ').bind λr=>if r then (evE w elt σ').bind λd=>.ok (σ',[d])else .ok (σ',[]))=.ok (none::some a::some b::c,g (.tup [a,b])):=by
    simp only[store,setAll,List.length_cons,List.length_nil,if_true,R.bind_ok,List.set_cons_succ,List.set_cons_zero];cases ht:evT w t (none::some a::some b::c)with
    |ok b'=>
     rw[ht]at q;simp only[R.bind_ok]at q ⊢;cases b'
     ·simp at q ⊢;rw[q];rfl
     ·simp only[if_true]at q ⊢;cases he:evE w elt (none::some a::some b::c)with
      |ok d=>rw[he]at q;simp only[R.bind_ok,R.ok.injEq]at q ⊢;rw[<-q];rfl
      |ex=>rw[he]at q;cases q
      |no=>rw[he]at q;cases q
    |ex=>rw[ht]at q;cases q
    |no=>rw[ht]at q;cases q
   rw[e];simp only[R.bind_ok];rw[ih (some a) (some b) _ λy hy=>hm y (aL _ hy),List.flatMap_cons,List.append_assoc]
 rw[qr,h];simp only[R.bind_ok];rw[if_neg (by lia),hc,key ds none none [] λ_ h=>h]
 rfl
theorem p9{w:W}{i:Int}:bD w (.int i) (.ty "int")=.ok (.bl true):=rfl
theorem mM{w:W}{i:Int}:bD w (.int i) (.ty "bool")=.ok (.bl false):=rfl
theorem nX{w:W}{i:List D}:bD w (.tup i) (.ty "tuple")=.ok (.bl true):=rfl
theorem mF{w:W}{i:List D}:bD w (.tup i) (.ty "bool")=.ok (.bl false)/\bD w (.tup i) (.ty "int")=.ok (.bl false)/\bD w (.tup i) (.ty "str")=.ok (.bl false)/\bD w (.tup i) (.ty "list")=.ok (.bl false):=⟨rfl,rfl,rfl,rfl⟩
theorem xy{w:W}{i:Bool}:bD w (.bl i) (.ty "bool")=.ok (.bl true):=rfl
theorem sh(t:Int×Int):(prD t).asks=true:=rfl
theorem lM:∀ns:List Int,plainAll (ns.map D.int)=true
 | []=>rfl
 |_::r=>lM r
theorem kr:∀ns:List Int,dv (ns.map D.int)=0
 | []=>rfl
 |_::r=>by show max 0 (dv _)=0;rw[kr r];rfl
theorem kF(ns:List Int):(D.tup (ns.map D.int)).asks=true:=by
 simp[D.asks,D.plain,D.deep,lM,kr]
theorem kU:∀ns ms:List Int,eqvAll (ns.map D.int) (ms.map D.int)=decide (ns=ms)
 | [],[]=>rfl
 | [],_::_=>rfl
 |_::_,[]=>rfl
 |a::r,b::t=>by
  show (a==b&&eqvAll (r.map D.int) (t.map D.int))=_;rw[kU r t];simp[Bool.decide_and]
  rfl
noncomputable def mn(a b:Int):Int:=if b<a then b else a
noncomputable def mx(a b:Int):Int:=if a<b then b else a
noncomputable def eO(ts:List (Int×Int))(a b:Int):Bool:=ts.any λt=>t.1==mn a b&&t.2==mx a b
theorem rl(ts:List (Int×Int))(u v:Int):qw .isin (.tup [.int u,.int v]) (.tup (ts.map prD))=.ok (ts.any λt=>t.1==u&&t.2==v):=by
 rw[qw];simp only[seq?];rw[if_pos (by simp only[aB,List.all_eq_true,aQ];exact⟨rfl,λx ⟨t,_,e⟩=>e▸sh t⟩),inD,List.any_map]
 congr 2;funext t;show ((t.1==u)&&((t.2==v)&&true))=_;rw[Bool.and_true]
theorem o9(ns ms:List Int):qw .eq (.tup (ns.map D.int)) (.tup (ms.map D.int))=.ok (decide (ns=ms)):=by
 rw[qw]
 ·rw[if_pos (by simp only[aB];exact⟨kF _,kF _⟩)];show R.ok (eqvAll _ _)=_;rw[kU]
 all_goals (intros;rintro⟨⟩)
structure GW(m:Int)(ts:List (Int×Int)):Prop where
 lo:1<=m
 hi:m<=8
 lt:ts.Pairwise λs t=>ltP s t=true
 ok:∀t∈ts,0<=t.1/\t.1<t.2/\t.2<m
 len:ts.length<=28
structure GS(m:Int)(s:List Int):Prop where
 lt:s.Pairwise (· < ·)
 ok:∀i∈s,0<=i/\i<m
 len:s.length<=8
abbrev wb(m:Int)(ts:List (Int×Int)):D:=.tup [.int m,.tup (ts.map prD)]
abbrev tu(s:List Int):D:=.tup (s.map D.int)
theorem ff{xs:List D}{i:Nat}(h:i<xs.length):atI xs (i:Int)=some xs[i]:=by
 rw[atI,ixN,if_pos (by lia),if_pos (by lia)];simp[h]
theorem all_true(xs:List D):bools? (xs.flatMap λ_=>[.bl true])=some (bt xs.length true):=by
 induction xs with
 |nil=>rfl
 |cons x r ih=>show (bools? (r.flatMap λ_=>[.bl true])).map (true :: ·)=_;rw[ih];rfl
theorem rf(n:Nat):(bt n true).all id=true:=by simp
theorem mQ{s t:Int×Int}(h:ltP s t=true):qw .lt (prD s) (prD t)=.ok true:=by
 show R.ok (cX [s.1,s.2] [t.1,t.2])=_;rw[ltP]at h;simp only[cX];by_cases e:s.1=t.1
 ·rw[if_pos e]at h ⊢;by_cases e2:s.2=t.2
  ·rw[e2]at h;simp at h
  ·rw[if_neg e2,h]
 ·rw[if_neg e]at h ⊢;rw[h]
noncomputable def rng(m:Int):List Int:=(aZ m.toNat).map λ(i:Nat)=>(i:Int)
theorem dD(m:Int):zo 0 m.toNat=(rng m).map D.int:=by
 rw[zo,rng,List.map_map];simp
theorem jF(m:Int):(rng m).length=m.toNat:=by simp[rng]
theorem iJ{m i:Int}:i∈rng m↔0<=i/\i<m:=by
 simp only[rng,aQ,List.mem_range];constructor
 ·rintro⟨a,h,rfl⟩;lia
 ·intro h;exact⟨i.toNat,by lia,by lia⟩
theorem j7(m:Int):(rng m).Pairwise (· < ·):=by
 rw[rng,List.pairwise_map];exact List.pairwise_lt_range.imp λh=>by lia
theorem hJ(c:Int->Bool)(ns:List Int):(ns.map D.int).flatMap (λx=>match x with | .int i=>if c i then [D.int i]else []|_=>[])=(ns.filter c).map D.int:=by
 induction ns with
 |nil=>rfl
 |cons a r ih=>
  rw[aY,List.flatMap_cons,ih,List.filter_cons];show (if c a=true then [D.int a]else [])++_=_;cases c a<;>rfl
theorem og(x y:Int)(h:0<y)(h':y<=2^64):small (x%y)=true:=by
 have a:=Int.emod_nonneg x (show y≠0 by lia);have b:=Int.emod_lt_of_pos x h;simp only[small,aB,decide_eq_true_eq];lia
noncomputable def st(c j:Int):Int:=
 ((((c%2147483647+977 * j+1) * 48271%2147483647) * ((c%2147483647+977 * j+1) * 48271%2147483647)%2147483629+40692 * (j+3)) * 69621%2147483647)/8
theorem GW.sub{m:Int}{ts ps:List (Int×Int)}(h:GW m ps)(s:ts.Sublist ps):GW m ts:=
 ⟨h.lo,h.hi,h.lt.sublist s,λt ht=>h.ok t (s.subset ht),aS s.length_le h.len⟩
theorem eq_int(a b:Int):qw .eq (.int a) (.int b)=.ok (decide (a=b)):=by
 show R.ok (a==b)=_;congr 1
theorem lt_int(a b:Int):qw .lt (.int a) (.int b)=.ok (decide (a<b)):=rfl
theorem vO{w:W}{tg:Tg}{it:It}{b r:Ss}{τ:Env}{ds:List D}(I:List D->Env->Prop)(h:evI w it τ=.ok ds)(h0:I ds τ)
  (hs:∀x t σ,I (x::t) σ->∃σ1 σ2,store tg x σ=.ok σ1/\qe w b σ1=.nx σ2/\I t σ2):∃σ,I [] σ/\qe w (.cons (.for tg it b) r) τ=qe w r σ:=by
 have key:∀(l:List D) (σ:Env),I l σ->∃σ',bW tg (λσ=>qe w b σ) l σ=.nx σ'/\I [] σ':=by
  intro l
  induction l with
  |nil=>intro σ q;exact⟨σ,rfl,q⟩
  |cons x t ih=>
   intro σ q;obtain⟨σ1,σ2,a,b',c⟩:=hs x t σ q;obtain⟨σ',d,e⟩:=ih σ2 c;exact⟨σ',by rw[bW,a];simp only[R.out_ok];rw[b'];exact d,e⟩
 obtain⟨σ',a,b'⟩:=key ds τ h0;refine⟨σ',b',?_⟩;rw[qe,zQ,h];simp only[R.out_ok];rw[a]
 rfl
noncomputable instance (m:Int) (ts:List (Int×Int)):Decidable (GW m ts):=
 decidable_of_iff (1<=m/\m<=8/\ts.Pairwise (λs t=>ltP s t=true)/\(∀t∈ts,0<=t.1/\t.1<t.2/\t.2<m)/\ts.length<=28) ⟨λ⟨a,b,c,d,e⟩=>⟨a,b,c,d,e⟩,λ⟨a,b,c,d,e⟩=>⟨a,b,c,d,e⟩⟩
noncomputable def Ends(J:Env->Prop)(Q:D->Prop):O->Prop
 | .nx σ=>J σ
 | .rt d=>Q d
 |_=>False
section
variable{w:W}{J K:Env->Prop}{Q:D->Prop}{s:S}{r:Ss}{τ σ:Env}
theorem km(h:J τ):Ends J Q (qe w .nil τ):=by rw[qe];exact h
theorem dC(h:evS w s τ=.nx σ)(h':Ends J Q (qe w r σ)):Ends J Q (qe w (.cons s r) τ):=by rw[qe,h];exact h'
theorem uP(h:Ends K Q (evS w s τ))(h':∀σ,K σ->Ends J Q (qe w r σ)):Ends J Q (qe w (.cons s r) τ):=by
 rw[qe];cases q:evS w s τ with
 |nx σ=>rw[q]at h;exact h' σ h
 |rt d=>rw[q]at h;exact h
 |_=>rw[q]at h;exact h.elim
theorem wq{e:E}{d:D}(h:evE w e τ=.ok d)(hq:Q d):Ends J Q (qe w (.cons (.ret e) r) τ):=by
 rw[qe,zk,h];exact hq
theorem kT{tg:Tg}{it:It}{b:Ss}{ds:List D}(I:List D->Env->Prop)(h:evI w it τ=.ok ds)(h0:I ds τ)(hs:∀x t σ,I (x::t) σ->∃σ1,store tg x σ=.ok σ1/\Ends (I t) Q (qe w b σ1))(hn:∀σ,I [] σ->Ends J Q (qe w r σ)):Ends J Q (qe w (.cons (.for tg it b) r) τ):=by
 have key:∀(l:List D) (σ:Env),I l σ->Ends (I []) Q (bW tg (λσ=>qe w b σ) l σ):=by
  intro l
  induction l with
  |nil=>intro σ q;exact q
  |cons x t ih=>
   intro σ q;obtain⟨σ1,a,b'⟩:=hs x t σ q;rw[bW,a];simp only[R.out_ok];cases z:qe w b σ1 with
   |nx σ2=>rw[z]at b';exact ih σ2 b'
   |rt d=>rw[z]at b';exact b'
   |_=>rw[z]at b';exact b'.elim
 have hk:=key ds τ h0;refine uP (K:=I []) ?_ hn;rw[zQ,h];simp only[R.out_ok];cases z:bW tg (λσ=>qe w b σ) ds τ with
 |nx σ2=>rw[z]at hk;exact hk
 |rt d=>rw[z]at hk;exact hk
 |_=>rw[z]at hk;exact hk.elim
end
noncomputable def hd(m:Int)(ts:List (Int×Int))(a:Int):List Int:=(rng m).filter λb=>b==a||eO ts a b
end KG
noncomputable def KG.Z:=aj @EV.qe.eq_1 (aj @EV.qe.eq_2 (aj @EV.bM (aj @EV.zY (aj @EV.zW (aj @EV.zk (aj @EV.zZ (aj @EV.zV (aj @EV.zE (aj @EV.qV (aj @EV.zd (aj @EV.qX (aj @EV.qY (aj @EV.zb (aj @EV.qU (aj @EV.zc (aj @EV.ql (aj @EV.qB (aj @EV.qD (aj @EV.qx (aj @EV.qy (aj @EV.qF (aj @EV.qo (aj @EV.qq (aj @EV.qE (aj @EV.qs (aj @EV.qk (aj @EV.qG (aj @EV.qC (aj @EV.zj.eq_1 (aj @EV.zj.eq_2 (aj @EV.di (aj @EV.dh (aj @EV.du (aj @EV.dt (aj @EV.dr (aj @EV.cZ (aj @EV.c_ (aj @EV.evI.eq_1 (aj @EV.evI.eq_2 (aj @EV.evI.eq_3 (aj @EV.evI.eq_4 (aj @EV.evI.eq_5 (aj @EV.evI.eq_6 (aj @EV.evO.eq_1 (aj @EV.evO.eq_2 (aj @EV.opI.eq_1 (aj @EV.opI.eq_2 (aj @EV.opI.eq_3 (aj @EV.opI.eq_4 (aj @EV.opI.eq_5 (aj @EV.opI.eq_6 (aj @EV.opI.eq_7 (aj @EV.opI.eq_8 (aj @EV.opI.eq_9 (aj @EV.opI.eq_10 (aj @EV.opI.eq_11 (aj @EV.b11.eq_1 (aj @EV.b11.eq_2 (aj @EV.b11.eq_3 (aj @EV.b11.eq_4 (aj @EV.b11.eq_5 (aj @EV.b11.eq_6 (aj @EV.b11.eq_7 (aj @EV.b11.eq_8 (aj @EV.b11.eq_9 (aj @EV.b11.eq_10 (aj @EV.b11.eq_11 (aj @EV.b11.eq_12 (aj @EV.b12.eq_1 (aj @EV.b12.eq_2 (aj @EV.b12.eq_3 (aj @EV.bP.eq_1 (aj @EV.bP.eq_2 (aj @EV.cm.eq_1 (aj @EV.cm.eq_2 (aj @EV.iiR.eq_1 (aj @EV.iiR.eq_2 (aj @EV.bE.eq_1 (aj @EV.store.eq_1 (aj @EV.store.eq_2 (aj @EV.store.eq_3 (aj @EV.setAll.eq_1 (aj @EV.setAll.eq_2 (aj @EV.setAll.eq_3 (aj @EV.truth.eq_1 (aj @EV.truth.eq_2 (aj @EV.truth.eq_3 (aj @EV.truth.eq_4 (aj @EV.truth.eq_5 (aj @EV.truth.eq_6 (aj @KG.p9 (aj @KG.mM (aj @KG.nX (aj @KG.mF (@KG.xy)))))))))))))))))))))))))))))))))))))))))))))))))))))))))))))))))))))))))))))))))))))))))))))))
namespace KG
open EV
open PySem (Str)
open L2 (atI ixN ltP)
noncomputable def fQ:Fn:=⟨1,1,false,(.cons (.ret (.and (.isi (.var 0) (.ty "int")) (.not (.isi (.var 0) (.ty "bool"))))) .nil)⟩
noncomputable def zv:Fn:=⟨3,3,false,(.cons (.ret (.and (.call "is_whole" (.cons (.var 0) .nil)) (.cmp2 .le .le (.var 1) (.var 0) (.var 2)))) .nil)⟩
noncomputable def ef:Fn:=⟨1,1,false,(.cons (.ret (.and (.isi (.var 0) (.ty "tuple")) (.cmp .eq (.bi .len (.cons (.var 0) .nil)) (.con (.int 2))))) .nil)⟩
noncomputable def fh:Fn:=⟨1,1,false,(.cons (.ret (.bi .all (.cons (.comp (.rng (.op .sub (.bi .len (.cons (.var 0) .nil)) (.con (.int 1)))) [none,none,some 0] (.nm 1) .yes (.cmp .lt (.ix (.var 2) (.var 1)) (.ix (.var 2) (.op .add (.var 1) (.con (.int 1)))))) .nil))) .nil)⟩
noncomputable def dw:Fn:=⟨1,3,false,(.cons (.ite (.not (.val (.call "is_pair" (.cons (.var 0) .nil)))) (.cons (.ret (.con (.bl false))) .nil) .nil) (.cons (.set (.tp [1,2]) (.var 0)) (.cons (.ite (.or (.not (.val (.call "is_between" (.cons (.var 1) (.cons (.con (.int 1)) (.cons (.glb "MOST") .nil)))))) (.not (.val (.isi (.var 2) (.ty "tuple"))))) (.cons (.ret (.con (.bl false))) .nil) .nil) (.cons (.ret (.and (.bi .all (.cons (.comp (.seq (.var 2)) [none,none,some 1] (.nm 1) .yes (.call "is_tie" (.cons (.var 1) (.cons (.var 2) .nil)))) .nil)) (.call "rises" (.cons (.var 2) .nil)))) .nil))))⟩
noncomputable def zK:Fn:=⟨2,4,false,(.cons (.ite (.not (.val (.call "is_pair" (.cons (.var 0) .nil)))) (.cons (.ret (.con (.bl false))) .nil) .nil) (.cons (.set (.tp [2,3]) (.var 0)) (.cons (.ret (.and (.call "is_whole" (.cons (.var 2) .nil)) (.and (.call "is_whole" (.cons (.var 3) .nil)) (.cmp3 .le .lt .lt (.con (.int 0)) (.var 2) (.var 3) (.var 1))))) .nil)))⟩
noncomputable def dS:Fn:=⟨1,1,false,(.cons (.ite (.not (.val (.call "is_web" (.cons (.var 0) .nil)))) (.cons (.raise "NoWeb" (.cons (.con (.str "a web is due")) .nil)) .nil) .nil) .nil)⟩
noncomputable def i':Fn:=⟨1,1,false,(.cons (.exp (.call "need_web" (.cons (.var 0) .nil))) (.cons (.ret (.bi .tuple (.cons (.comp (.rng (.ix (.var 0) (.con (.int 0)))) [none,none,some 0] (.nm 1) .yes (.call "hood_of" (.cons (.var 2) (.cons (.var 1) .nil)))) .nil))) .nil))⟩
noncomputable def fM:Fn:=⟨2,4,false,(.cons (.set (.tp [2,3]) (.var 0)) (.cons (.ret (.bi .tuple (.cons (.comp (.rng (.var 2)) [none,none,some 1,some 3] (.nm 1) (.or (.cmp .eq (.var 1) (.var 2)) (.val (.call "are_tied" (.cons (.var 3) (.cons (.var 2) (.cons (.var 1) .nil)))))) (.var 1)) .nil))) .nil))⟩
noncomputable def fA:Fn:=⟨3,3,false,(.cons (.ret (.cmp .isin (.tup (.cons (.bi .min (.cons (.var 1) (.cons (.var 2) .nil))) (.cons (.bi .max (.cons (.var 1) (.cons (.var 2) .nil))) .nil))) (.var 0))) .nil)⟩
noncomputable def o7:Fn:=⟨2,2,false,(.cons (.ret (.bi .tuple (.cons (.comp (.seq (.var 1)) [none,none,some 0] (.nm 1) (.cmp .isin (.var 1) (.var 2)) (.var 1)) .nil))) .nil)⟩
noncomputable def vg:Fn:=⟨2,2,false,(.cons (.ret (.comp (.seq (.var 0)) [none,none,some 1] (.nm 1) .yes (.call "mark_of" (.cons (.var 1) (.cons (.var 2) .nil))))) .nil)⟩
noncomputable def mP:Fn:=⟨1,3,false,(.cons (.set (.nm 1) (.lst (.cons (.tup .nil) .nil))) (.cons (.for (.nm 2) (.rng (.ix (.var 0) (.con (.int 0)))) (.cons (.set (.nm 1) (.op .add (.var 1) (.comp (.seq (.var 1)) [none,none,some 2] (.nm 1) .yes (.op .add (.var 1) (.tup (.cons (.var 2) .nil)))))) .nil)) (.cons (.ret (.bi .sorted (.cons (.var 1) .nil))) .nil)))⟩
noncomputable def kq:Fn:=⟨2,2,false,(.cons (.ite (.cmp .lt (.var 1) (.bi .len (.cons (.var 0) .nil))) (.cons (.ret (.ix (.var 0) (.var 1))) .nil) .nil) (.cons (.ret (.con (.int 0))) .nil))⟩
noncomputable def zz:Fn:=⟨2,3,false,(.cons (.set (.nm 2) (.op .mod (.op .mul (.op .add (.op .add (.op .mod (.var 0) (.con (.int 2147483647))) (.op .mul (.con (.int 977)) (.var 1))) (.con (.int 1))) (.con (.int 48271))) (.con (.int 2147483647)))) (.cons (.set (.nm 2) (.op .mod (.op .mul (.var 2) (.var 2)) (.con (.int 2147483629)))) (.cons (.set (.nm 2) (.op .mod (.op .mul (.op .add (.var 2) (.op .mul (.con (.int 40692)) (.op .add (.var 1) (.con (.int 3))))) (.con (.int 69621))) (.con (.int 2147483647)))) (.cons (.ret (.op .fdiv (.var 2) (.con (.int 8)))) .nil))))⟩
noncomputable def je:Fn:=⟨2,10,false,(.cons (.set (.nm 2) (.op .add (.con (.int 1)) (.op .mod (.var 0) (.var 1)))) (.cons (.set (.nm 3) (.op .fdiv (.var 0) (.var 1))) (.cons (.set (.nm 4) (.op .mod (.var 3) (.con (.int 6)))) (.cons (.set (.nm 5) (.lst .nil)) (.cons (.for (.nm 6) (.rng2 (.con (.int 1)) (.var 2)) (.cons (.for (.nm 7) (.rng (.var 6)) (.cons (.set (.nm 8) (.op .band (.op .shr (.op .fdiv (.var 3) (.con (.int 6))) (.op .add (.op .fdiv (.op .mul (.var 6) (.op .sub (.var 6) (.con (.int 1)))) (.con (.int 2))) (.var 7))) (.con (.int 1)))) (.cons (.ite (.cmp .eq (.var 4) (.con (.int 3))) (.cons (.set (.nm 8) (.op .fdiv (.op .mod (.call "_law_stir" (.cons (.var 0) (.cons (.op .add (.op .mul (.con (.int 8)) (.var 7)) (.var 6)) .nil))) (.con (.int 3))) (.con (.int 2)))) .nil) .nil) (.cons (.ite (.cmp .eq (.var 4) (.con (.int 4))) (.cons (.set (.nm 8) (.op .fdiv (.op .add (.op .mod (.call "_law_stir" (.cons (.var 0) (.cons (.op .add (.op .mul (.con (.int 8)) (.var 7)) (.var 6)) .nil))) (.con (.int 4))) (.con (.int 2))) (.con (.int 3)))) .nil) .nil) (.cons (.ite (.cmp .eq (.var 4) (.con (.int 5))) (.cons (.set (.nm 9) (.lst (.cons (.cmp .eq (.var 6) (.op .add (.var 7) (.con (.int 1)))) (.cons (.or (.cmp .eq (.var 6) (.op .add (.var 7) (.con (.int 1)))) (.cmp .eq (.op .sub (.var 6) (.var 7)) (.op .sub (.var 2) (.con (.int 1))))) (.cons (.cmp .eq (.var 7) (.con (.int 0))) (.cons (.con (.bl true)) (.cons (.and (.cmp .eq (.var 6) (.op .add (.var 7) (.con (.int 1)))) (.cmp .lt (.op .mod (.var 7) (.con (.int 3))) (.con (.int 2)))) .nil))))))) (.cons (.set (.nm 8) (.bi .int (.cons (.ix (.var 9) (.op .mod (.op .fdiv (.var 3) (.con (.int 6))) (.con (.int 5)))) .nil))) .nil)) .nil) (.cons (.ite (.cmp .eq (.var 8) (.con (.int 1))) (.cons (.app 5 (.tup (.cons (.var 7) (.cons (.var 6) .nil)))) .nil) .nil) .nil)))))) .nil)) (.cons (.ret (.tup (.cons (.var 2) (.cons (.bi .tuple (.cons (.bi .sorted (.cons (.own 5) .nil)) .nil)) .nil)))) .nil))))))⟩
noncomputable def nC:Fn:=⟨1,4,false,(.cons (.set (.nm 1) (.comp (.rng (.ix (.var 0) (.con (.int 0)))) [none,none] (.nm 1) .yes (.op .shl (.con (.int 1)) (.var 1)))) (.cons (.for (.tp [2,3]) (.seq (.ix (.var 0) (.con (.int 1)))) (.cons (.seti 1 (.var 2) (.op .bor (.ix (.own 1) (.var 2)) (.op .shl (.con (.int 1)) (.var 3)))) (.cons (.seti 1 (.var 3) (.op .bor (.ix (.own 1) (.var 3)) (.op .shl (.con (.int 1)) (.var 2)))) .nil))) (.cons (.ret (.own 1)) .nil)))⟩
noncomputable def vW:Fn:=⟨2,2,false,(.cons (.ret (.bi .tuple (.cons (.comp (.rng (.var 0)) [none,none,some 1] (.nm 1) (.cmp .eq (.op .band (.op .shr (.var 2) (.var 1)) (.con (.int 1))) (.con (.int 1))) (.var 1)) .nil))) .nil)⟩
noncomputable def zS:Fn:=⟨2,2,false,(.cons (.ret (.call "is_between" (.cons (.var 1) (.cons (.con (.int 0)) (.cons (.op .sub (.ix (.var 0) (.con (.int 0))) (.con (.int 1))) .nil))))) .nil)⟩
noncomputable def dB:Fn:=⟨2,2,false,(.cons (.ite (.not (.val (.isi (.var 1) (.ty "tuple")))) (.cons (.ret (.con (.bl false))) .nil) .nil) (.cons (.ret (.and (.bi .all (.cons (.comp (.seq (.var 1)) [none,none,some 0] (.nm 1) .yes (.call "is_place" (.cons (.var 2) (.cons (.var 1) .nil)))) .nil)) (.call "rises" (.cons (.var 1) .nil)))) .nil))⟩
noncomputable def dP:Fn:=⟨2,2,false,(.cons (.ite (.not (.val (.call "is_some" (.cons (.var 0) (.cons (.var 1) .nil))))) (.cons (.raise "NoPlaces" (.cons (.con (.str "a rising tuple of places of the web is due")) .nil)) .nil) .nil) .nil)⟩
structure Web(p:Pr):Prop where
 is_whole:p.fns "is_whole" = some fQ
 is_between:p.fns "is_between" = some zv
 is_pair:p.fns "is_pair" = some ef
 rises:p.fns "rises" = some fh
 is_web:p.fns "is_web" = some dw
 is_tie:p.fns "is_tie" = some zK
 need_web:p.fns "need_web" = some dS
 MOST:p.glb "MOST" = some (.int 8)
structure Base(p:Pr):Prop extends Web p where
 all_some:p.fns "all_some" = some mP
 _law_cell_at:p.fns "_law_cell_at" = some kq
 _law_stir:p.fns "_law_stir" = some zz
 _law_web:p.fns "_law_web" = some je
 _law_some:p.fns "_law_some" = some vW
structure jP(p:Pr):Prop where
 _law_cell_at:p.fns "_law_cell_at" = some kq
 _law_stir:p.fns "_law_stir" = some zz
 _law_web:p.fns "_law_web" = some je
theorem Base.draw{p:Pr}(B:Base p):jP p:=⟨B._law_cell_at,B._law_stir,B._law_web⟩
structure Hds(p:Pr):Prop where
 hoods:p.fns "hoods" = some i'
 hood_of:p.fns "hood_of" = some fM
 are_tied:p.fns "are_tied" = some fA
structure Nbr(p:Pr):Prop where
 hoods:p.fns "hoods" = some i'
 hood_of:p.fns "hood_of" = some fM
 are_tied:p.fns "are_tied" = some fA
 mark_of:p.fns "mark_of" = some o7
 marks_of:p.fns "marks_of" = some vg
structure xx(p:Pr):Prop extends Nbr p where
 _law_masks:p.fns "_law_masks" = some nC
noncomputable instance {p:Pr}:CoeOut (Base p) (Web p):=⟨λb=>b.toWeb⟩
theorem Nbr.hds{p:Pr}(O:Nbr p):Hds p:=⟨O.hoods,O.hood_of,O.are_tied⟩
noncomputable instance {p:Pr}:CoeOut (Base p) (jP p):=⟨λb=>b.draw⟩
noncomputable instance {p:Pr}:CoeOut (Nbr p) (Hds p):=⟨λb=>b.hds⟩
noncomputable instance {p:Pr}:CoeOut (xx p) (Nbr p):=⟨λb=>b.toNbr⟩
structure cN(p:Pr):Prop where
 is_place:p.fns "is_place" = some zS
 is_some:p.fns "is_some" = some dB
structure fi(p:Pr):Prop where
 is_place:p.fns "is_place" = some zS
 is_some:p.fns "is_some" = some dB
 need_some:p.fns "need_some" = some dP
theorem fi.a{p:Pr}(b:fi p):cN p:=⟨b.is_place,b.is_some⟩
noncomputable instance {p:Pr}:CoeOut (fi p) (cN p):=⟨λb=>b.a⟩
section
variable{p:Pr}
theorem qc{k:Nat}{x:Str}{f:Fn}{ds:List D}(h:p.fns x=some f):qa p (k+1) x ds=zP ⟨qa p k,p.glb,p.sub,p.cat⟩ f ds:=by
 rw[qa,h]
section
variable(B:Web p)
include B
theorem is_whole{k:Nat}(i:Int):qa p (k+1) "is_whole" [.int i]=.ok (.bl true):=by rw[qc B.is_whole];rfl
theorem is_between{k:Nat}(i a b:Int)(h:a<=i/\i<=b):qa p (k+2) "is_between" [.int i,.int a,.int b]=.ok (.bl true):=by
 rw[qc B.is_between];refine qz rfl rfl ?_;simp[KG.Z,zv,is_whole B,qw,fW,h.1,h.2]
theorem is_pair{k:Nat}(a b:D):qa p (k+1) "is_pair" [.tup [a,b]]=.ok (.bl true):=by
 rw[qc B.is_pair];refine qz rfl rfl ?_;simp[KG.Z,ef,b1,seq?,qw,D.asks,D.plain,D.deep,D.eqv]
theorem is_tie{k:Nat}(a b m:Int)(h:0<=a/\a<b/\b<m):qa p (k+2) "is_tie" [.tup [.int a,.int b],.int m]=.ok (.bl true):=by
 rw[qc B.is_tie];refine qz rfl rfl ?_;simp[KG.Z,zK,is_pair B,is_whole B,qw,fW,h.1,h.2.1,h.2.2]
theorem rises{k:Nat}(xs:List D)(hz:xs.length<=28)(h:∀(i:Nat) (q:i+1<xs.length),qw .lt xs[i] xs[i+1]=.ok true):qa p (k+1) "rises" [.tup xs]=.ok (.bl true):=by
 rw[qc B.rises];refine qz rfl rfl ?_;have hr:qi ((xs.length:Int)-1)=true:=by simp[qi];lia
 have hc:evE ⟨qa p k,p.glb,p.sub,p.cat⟩ (.comp (.rng (.op .sub (.bi .len (.cons (.var 0) .nil)) (.con (.int 1)))) [none,none,some 0] (.nm 1) .yes (.cmp .lt (.ix (.var 2) (.var 1)) (.ix (.var 2) (.op .add (.var 1) (.con (.int 1)))))) [some (.tup xs)]=.ok (.lst ((zo 0 ((xs.length:Int)-1).toNat).flatMap λ_=>[.bl true])):=by
  refine dO (c:=[some (.tup xs)]) ?_ ?_ rfl ?_
  ·simp[KG.Z,b1,seq?,op2,hr]
  ·simp[zo,SZ];lia
  ·intro x hx;simp only[zo,aQ,List.mem_range]at hx;obtain⟨i,hi,rfl⟩:=hx;have e1:atI xs ((0:Int)+(i:Int))=some xs[i]:=by rw[Int.zero_add];exact ff (by lia)
   have e2:atI xs ((0:Int)+(i:Int)+1)=some xs[i+1]:=by rw[Int.zero_add];exact ff (i:=i+1) (by lia)
   have e3:=h i (by lia);simp only[Int.zero_add]at e1 e2;simp[KG.Z,ixD,op2,e1,e2,e3]
 simp[KG.Z,fh,hc,b1,all_true,rf]
theorem is_web{k:Nat}{m:Int}{ts:List (Int×Int)}(h:GW m ts):qa p (k+3) "is_web" [wb m ts]=.ok (.bl true):=by
 rw[qc B.is_web];refine qz rfl rfl ?_;have hr:=rises B (k:=k+1) (ts.map prD) (by simpa using h.len) (λi q=>by
  rw[List.getElem_map,List.getElem_map];exact mQ (List.pairwise_iff_getElem.mp h.lt i (i+1) (by simp at q;lia) (by simpa using q) (by lia)))
 have hc:evE ⟨qa p (k+2),p.glb,p.sub,p.cat⟩ (.comp (.seq (.var 2)) [none,none,some 1] (.nm 1) .yes (.call "is_tie" (.cons (.var 1) (.cons (.var 2) .nil)))) [some (wb m ts),some (.int m),some (.tup (ts.map prD))]=.ok (.lst ((ts.map prD).flatMap λ_=>[.bl true])):=by
  refine dO (c:=[some (.int m)]) ?_ ?_ rfl ?_
  ·simp[KG.Z,seq?]
  ·simp[SZ];have:=h.len;lia
  ·intro x hx;rw[aQ]at hx;obtain⟨t,ht,rfl⟩:=hx;have e:=is_tie B (k:=k) t.1 t.2 m (h.ok t ht);have e':qa p (k+2) "is_tie" [prD t,.int m]=.ok (.bl true):=e;simp[KG.Z,e']
 simp[KG.Z,dw,is_pair B,is_between B m 1 8 ⟨h.lo,h.hi⟩,B.MOST,hc,b1,all_true,hr]
theorem need_web{k:Nat}{m:Int}{ts:List (Int×Int)}(h:GW m ts):qa p (k+4) "need_web" [wb m ts]=.ok .non:=by
 rw[qc B.need_web];simp only[zP];simp[KG.Z,dS,is_web B h]
end
theorem gp(hf:p.fns "_law_stir" = some zz){k:Nat}(c j:Int):qa p (k+1) "_law_stir" [.int c,.int j]=.ok (.int (st c j)):=by
 have s1:small 977=true:=by decide
 have s2:small 48271=true:=by decide
 have s3:small 40692=true:=by decide
 have s4:small 69621=true:=by decide
 have s5:=og ((c%2147483647+977 * j+1) * 48271) 2147483647 (by decide) (by decide);rw[qc hf];refine qz rfl rfl ?_;simp[KG.Z,zz,op2,s1,s2,s3,s4,s5,st]
section
variable(B:Base p)
include B
end
section
variable(B:Web p)(S:cN p)
include B S
theorem is_place{k:Nat}(i m:Int)(t:D)(h:0<=i/\i<m):qa p (k+3) "is_place" [.tup [.int m,t],.int i]=.ok (.bl true):=by
 rw[qc S.is_place];refine qz rfl rfl ?_;simp[KG.Z,zS,ixD,atI,ixN,op2,is_between B i 0 (m-1) (by lia)]
theorem is_some{k:Nat}{m:Int}{t:D}{s:List Int}(h:GS m s):qa p (k+4) "is_some" [.tup [.int m,t],tu s]=.ok (.bl true):=by
 rw[qc S.is_some];refine qz rfl rfl ?_;have hr:=rises B (k:=k+2) (s.map D.int) (by simp;have:=h.len;lia) (λi q=>by
  rw[List.getElem_map,List.getElem_map];have:=List.pairwise_iff_getElem.mp h.lt i (i+1) (by simp at q;lia) (by simpa using q) (by lia);simp[qw,fW,this])
 have hc:evE ⟨qa p (k+3),p.glb,p.sub,p.cat⟩ (.comp (.seq (.var 1)) [none,none,some 0] (.nm 1) .yes (.call "is_place" (.cons (.var 2) (.cons (.var 1) .nil)))) [some (.tup [.int m,t]),some (tu s)]=.ok (.lst ((s.map D.int).flatMap λ_=>[.bl true])):=by
  refine dO (c:=[some (.tup [.int m,t])]) ?_ ?_ rfl ?_
  ·simp[KG.Z,seq?]
  ·simp[SZ];have:=h.len;lia
  ·intro x hx;rw[aQ]at hx;obtain⟨i,hi,rfl⟩:=hx;simp[KG.Z,is_place B S i m t (h.ok i hi)]
 simp[KG.Z,dB,hc,b1,all_true,hr]
omit S in
theorem need_some(S:fi p){k:Nat}{m:Int}{t:D}{s:List Int}(h:GS m s):qa p (k+5) "need_some" [.tup [.int m,t],tu s]=.ok .non:=by
 rw[qc S.need_some];simp only[zP];simp[KG.Z,dP,is_some B S h]
end
theorem kB(hA:p.fns "are_tied" = some fA){k:Nat}(ts:List (Int×Int))(a b:Int):qa p (k+1) "are_tied" [.tup (ts.map prD),.int a,.int b]=.ok (.bl (eO ts a b)):=by
 rw[qc hA];refine qz rfl rfl ?_;simp[KG.Z,fA,b1,rl,eO,mn,mx]
theorem tY(hH:p.fns "hood_of" = some fM)(hA:p.fns "are_tied" = some fA){k:Nat}{m:Int}{ts:List (Int×Int)}(h:GW m ts)(a:Int):qa p (k+2) "hood_of" [wb m ts,.int a]=.ok (tu (hd m ts a)):=by
 rw[qc hH];refine qz rfl rfl ?_;have h1:=h.lo;have h2:=h.hi;have hc:evE ⟨qa p (k+1),p.glb,p.sub,p.cat⟩ (.comp (.rng (.var 2)) [none,none,some 1,some 3] (.nm 1) (.or (.cmp .eq (.var 1) (.var 2)) (.val (.call "are_tied" (.cons (.var 3) (.cons (.var 2) (.cons (.var 1) .nil)))))) (.var 1)) [some (wb m ts),some (.int a),some (.int m),some (.tup (ts.map prD))]=.ok (.lst ((hd m ts a).map D.int)):=by
  rw[hd,<-hJ,<-dD];refine dO (c:=[some (.int a),some (.tup (ts.map prD))]) ?_ ?_ rfl ?_
  ·have:qi m=true:=by simp[qi];lia
   simp[KG.Z,this]
  ·simp[zo,SZ];lia
  ·intro x hx;rw[dD,aQ]at hx;obtain⟨b,hb,rfl⟩:=hx;have e:qw .eq (.int b) (.int a)=.ok (b==a):=rfl;simp[KG.Z,e,kB hA];by_cases q:b=a
   ·simp[q]
   ·simp[q];cases eO ts a b<;>simp
 simp[KG.Z,fM,hc,b1,seq?]
section
variable(B:Web p)(O:Hds p)
include O
theorem are_tied{k:Nat}(ts:List (Int×Int))(a b:Int):qa p (k+1) "are_tied" [.tup (ts.map prD),.int a,.int b]=.ok (.bl (eO ts a b)):=kB O.are_tied ts a b
theorem hood_of{k:Nat}{m:Int}{ts:List (Int×Int)}(h:GW m ts)(a:Int):qa p (k+2) "hood_of" [wb m ts,.int a]=.ok (tu (hd m ts a)):=tY O.hood_of O.are_tied h a
include B
end
section
variable(O:Nbr p)
include O
end
end
theorem ui{α:Type}{w:W}{it:It}{cap:List (Option Nat)}{t:T}{elt:E}{τ c:Env}{l:List α}{f:α->D}(q:α->Bool)(g:α->D)(h:evI w it τ=.ok (l.map f))(hz:l.length<=SZ)(hc:cc cap τ=none::none::c)
  (hb:∀a∈l,evT w t (none::some (f a)::c)=.ok (q a)/\(q a=true->evE w elt (none::some (f a)::c)=.ok (g a))):evE w (.comp it cap (.nm 1) t elt) τ=.ok (.lst ((l.filter q).map g)):=by
 have key:∀(r:List α) (v:Option D) (acc:List D),(∀x∈r,x∈l)->zC (λx σ=>noEx ((store (.nm 1) x σ).bind λσ'=>(evT w t σ').bind λr=>if r then (evE w elt σ').bind λd=>.ok (σ',[d])else .ok (σ',[]))) (r.map f) (none::v::c) acc=.ok (acc++(r.filter q).map g):=by
  intro r
  induction r with
  |nil=>intro v acc _;simp[zC]
  |cons x r ih=>
   intro v acc hm;obtain⟨h1,h2⟩:=hb x (hm x aM);rw[aY,zC];have e:noEx ((store (.nm 1) (f x) (none::v::c)).bind λσ'=>(evT w t σ').bind λr=>if r then (evE w elt σ').bind λd=>.ok (σ',[d])else .ok (σ',[]))=.ok (none::some (f x)::c,if q x then [g x]else []):=by
    simp only[store,R.bind_ok,List.set_cons_succ,List.set_cons_zero,h1];cases hq:q x with
    |false=>rfl
    |true=>simp only[if_true,h2 hq,R.bind_ok];rfl
   rw[e];simp only[R.bind_ok];rw[ih (some (f x)) _ λy hy=>hm y (aL _ hy),List.filter_cons,List.append_assoc];cases q x<;>simp
 rw[qr,h];simp only[R.bind_ok];rw[if_neg (by simp;lia),hc,key l none [] λ_ h=>h]
 rfl
theorem fJ{α:Type}{w:W}{it:It}{cap:List (Option Nat)}{elt:E}{τ c:Env}{l:List α}{f:α->D}(g:α->D)(h:evI w it τ=.ok (l.map f))(hz:l.length<=SZ)(hc:cc cap τ=none::none::c)
  (hb:∀a∈l,evE w elt (none::some (f a)::c)=.ok (g a)):evE w (.comp it cap (.nm 1) .yes elt) τ=.ok (.lst (l.map g)):=by
 have:=ui (t:=.yes) (elt:=elt) (f:=f) (λ_=>true) g h hz hc λa ha=>⟨rfl,λ_=>hb a ha⟩
 rwa[List.filter_eq_self.mpr (λ_ _=>rfl)]at this
theorem fb{w:W}{e:E}{τ:Env}{xs:List D}(h:evE w e τ=.ok (.tup xs)):evI w (.seq e) τ=.ok xs:=by rw[evI.eq_1,h];rfl
theorem vH{α:Type}(l:List α)(f:α->Bool):bools? (l.map λa=>D.bl (f a))=some (l.map f):=by
 induction l with
 |nil=>rfl
 |cons a r ih=>rw[aY,bools?,ih];rfl
theorem iq{α:Type}(l:List α)(f:α->Bool):b1 .all [.lst (l.map λa=>D.bl (f a))]=.ok (.bl (l.all f)):=by
 rw[b1,b11];simp only[cm];rw[vH];simp only[bP];rw[List.all_map];rfl
theorem mI(xs:List D):b1 .len [.tup xs]=.ok (.int xs.length):=rfl
theorem vN(ns:List Int)(lo hi:Option Int):∃cs:List Int,cutD (ns.map D.int) lo hi=cs.map D.int/\cs.length<=ns.length:=by
 refine⟨(ns.drop _).take _,by rw[cutD,<-List.map_drop,<-List.map_take],by simp;lia⟩
theorem fx{α:Type}{f:α->D}{r:List D}{x:D}{l:List α}(e:x::r=l.map f):∃a l',l=a::l'/\x=f a/\r=l'.map f:=by
 cases l with
 |nil=>cases e
 |cons a l'=>rw[aY]at e;injection e with e1 e2;exact⟨a,l',rfl,e1,e2⟩
theorem rN{w:W}{f:Fn}{ds:List D}{τ:Env}{Q:D->Prop}(hl:ds.length=f.ps)(hτ:ds.map some++bt (f.N-f.ps) none=τ)(h:Ends (λ_=>False) Q (qe w f.body τ)):∃d,zP w f ds=.ok d/\Q d:=by
 rw[zP,if_pos hl,hτ];cases z:qe w f.body τ with
 |rt d=>rw[z]at h;exact⟨d,rfl,h⟩
 |nx _=>rw[z]at h;exact h.elim
 |_=>rw[z]at h;exact h.elim
noncomputable def eK:Fn:=⟨2,4,false,(.cons (.ite (.cmp .is (.var 1) (.con .non)) (.cons (.ret (.cmp .is (.var 0) (.con .non))) .nil) .nil) (.cons (.ite (.val (.isi (.var 1) (.ty "bool"))) (.cons (.ret (.and (.isi (.var 0) (.ty "bool")) (.cmp .eq (.var 0) (.var 1)))) .nil) .nil) (.cons (.ite (.val (.isi (.var 1) (.ty "int"))) (.cons (.ret (.and (.isi (.var 0) (.ty "int")) (.and (.not (.isi (.var 0) (.ty "bool"))) (.cmp .eq (.var 0) (.var 1))))) .nil) .nil) (.cons (.ite (.val (.isi (.var 1) (.ty "str"))) (.cons (.ret (.and (.isi (.var 0) (.ty "str")) (.cmp .eq (.var 0) (.var 1)))) .nil) .nil) (.cons (.ite (.or (.cmp .ne (.isi (.var 1) (.ty "list")) (.isi (.var 0) (.ty "list"))) (.cmp .ne (.isi (.var 1) (.ty "tuple")) (.isi (.var 0) (.ty "tuple")))) (.cons (.ret (.con (.bl false))) .nil) .nil) (.cons (.ite (.cmp .ne (.bi .len (.cons (.var 0) .nil)) (.bi .len (.cons (.var 1) .nil))) (.cons (.ret (.con (.bl false))) .nil) .nil) (.cons (.for (.tp [2,3]) (.zip (.var 0) (.var 1)) (.cons (.ite (.not (.val (.call "_law_same" (.cons (.var 2) (.cons (.var 3) .nil))))) (.cons (.ret (.con (.bl false))) .nil) .nil) .nil)) (.cons (.ret (.con (.bl true))) .nil))))))))⟩
noncomputable def dR:Fn:=⟨1,3,false,(.cons (.set (.nm 1) (.lst .nil)) (.cons (.for (.nm 2) (.rng (.var 0)) (.cons (.set (.nm 1) (.op .add (.var 1) (.comp (.rng2 (.op .add (.var 2) (.con (.int 1))) (.var 0)) [none,none,some 2] (.nm 1) .yes (.tup (.cons (.var 2) (.cons (.var 1) .nil)))))) .nil)) (.cons (.ret (.var 1)) .nil)))⟩
noncomputable def fu:Fn:=⟨2,5,false,(.cons (.set (.nm 2) (.lst .nil)) (.cons (.for (.tp [3,4]) (.enum (.call "_law_pairs" (.cons (.var 0) .nil))) (.cons (.ite (.and (.cmp .eq (.op .mod (.var 1) (.con (.int 2))) (.con (.int 0))) (.cmp .eq (.op .mod (.op .shr (.op .fdiv (.var 1) (.con (.int 2))) (.var 3)) (.con (.int 2))) (.con (.int 1)))) (.cons (.app 2 (.var 4)) .nil) .nil) (.cons (.ite (.and (.cmp .eq (.op .mod (.var 1) (.con (.int 2))) (.con (.int 1))) (.cmp .lt (.op .mod (.call "_law_stir" (.cons (.var 1) (.cons (.var 3) .nil))) (.con (.int 5))) (.op .add (.con (.int 1)) (.op .mod (.op .fdiv (.var 1) (.con (.int 2))) (.con (.int 3)))))) (.cons (.app 2 (.var 4)) .nil) .nil) .nil))) (.cons (.ret (.tup (.cons (.var 0) (.cons (.bi .tuple (.cons (.own 2) .nil)) .nil)))) .nil)))⟩
noncomputable def zG:Fn:=⟨2,2,false,(.cons (.ite (.cmp .eq (.op .mod (.var 1) (.con (.int 2))) (.con (.int 0))) (.cons (.ret (.bi .tuple (.cons (.comp (.rng (.var 0)) [none,none,some 1] (.nm 1) (.cmp .eq (.op .mod (.op .shr (.op .fdiv (.var 2) (.con (.int 2))) (.var 1)) (.con (.int 2))) (.con (.int 1))) (.var 1)) .nil))) .nil) .nil) (.cons (.ret (.bi .tuple (.cons (.comp (.rng (.var 0)) [none,none,some 1] (.nm 1) (.cmp .lt (.op .mod (.call "_law_stir" (.cons (.var 2) (.cons (.op .add (.var 1) (.con (.int 60))) .nil))) (.con (.int 4))) (.op .add (.con (.int 1)) (.op .mod (.op .fdiv (.var 2) (.con (.int 2))) (.con (.int 3))))) (.var 1)) .nil))) .nil))⟩
structure Lw(p:Pr):Prop where
 _law_stir:p.fns "_law_stir" = some zz
 _law_pairs:p.fns "_law_pairs" = some dR
 _law_web_by:p.fns "_law_web_by" = some fu
 _law_some_by:p.fns "_law_some_by" = some zG
section
variable{p:Pr}
noncomputable def prs(n:Nat):List (Int×Int):=(aZ n).flatMap λa=>((aZ n).filter λb=>decide (a<b)).map λ(b:Nat)=>((a:Int),(b:Int))
theorem pY(hf:p.fns "_law_pairs" = some dR)(m:Int)(h1:1<=m)(h2:m<=8):∃P,(∀k,qa p (k+1) "_law_pairs" [.int m]=.ok (.lst (P.map prD)))/\GW m P:=by
 have:m=1\/m=2\/m=3\/m=4\/m=5\/m=6\/m=7\/m=8:=by lia
 rcases this with rfl|rfl|rfl|rfl|rfl|rfl|rfl|rfl
 ·exact⟨prs 1,λk=>by rw[qc hf];kernel_rfl,by decide +kernel⟩
 ·exact⟨prs 2,λk=>by rw[qc hf];kernel_rfl,by decide +kernel⟩
 ·exact⟨prs 3,λk=>by rw[qc hf];kernel_rfl,by decide +kernel⟩
 ·exact⟨prs 4,λk=>by rw[qc hf];kernel_rfl,by decide +kernel⟩
 ·exact⟨prs 5,λk=>by rw[qc hf];kernel_rfl,by decide +kernel⟩
 ·exact⟨prs 6,λk=>by rw[qc hf];kernel_rfl,by decide +kernel⟩
 ·exact⟨prs 7,λk=>by rw[qc hf];kernel_rfl,by decide +kernel⟩
 ·exact⟨prs 8,λk=>by rw[qc hf];kernel_rfl,by decide +kernel⟩
noncomputable def WI(m c:Int)(P:List (Int×Int))(r:List D)(σ:Env):Prop:=
 ∃(j:Nat) (ts ps:List (Int×Int)) (v u:Option D),r=cq j (ps.map prD)/\(ts++ps).Sublist P/\σ=[some (.int m),some (.int c),some (.lst (ts.map prD)),v,u]
theorem sP(hS:p.fns "_law_stir" = some zz)(hP0:p.fns "_law_pairs" = some dR)(hW:p.fns "_law_web_by" = some fu){k:Nat}(m c:Int)(h1:1<=m)(h2:m<=8):∃ts,GW m ts/\qa p (k+2) "_law_web_by" [.int m,.int c]=.ok (wb m ts):=by
 obtain⟨P,hP,g⟩:=pY hP0 m h1 h2;have hl:=g.len;obtain⟨σ,⟨j,ts,ps,v,u,e,s,rfl⟩,ev⟩:=vO (w:=⟨qa p (k+1),p.glb,p.sub,p.cat⟩) (tg:=.tp [3,4]) (it:=.enum (.call "_law_pairs" (.cons (.var 0) .nil)))
  (b:=.cons (.ite (.and (.cmp .eq (.op .mod (.var 1) (.con (.int 2))) (.con (.int 0))) (.cmp .eq (.op .mod (.op .shr (.op .fdiv (.var 1) (.con (.int 2))) (.var 3)) (.con (.int 2))) (.con (.int 1)))) (.cons (.app 2 (.var 4)) .nil) .nil) (.cons (.ite (.and (.cmp .eq (.op .mod (.var 1) (.con (.int 2))) (.con (.int 1))) (.cmp .lt (.op .mod (.call "_law_stir" (.cons (.var 1) (.cons (.var 3) .nil))) (.con (.int 5))) (.op .add (.con (.int 1)) (.op .mod (.op .fdiv (.var 1) (.con (.int 2))) (.con (.int 3)))))) (.cons (.app 2 (.var 4)) .nil) .nil) .nil))
  (r:=.cons (.ret (.tup (.cons (.var 0) (.cons (.bi .tuple (.cons (.own 2) .nil)) .nil)))) .nil) (τ:=[some (.int m),some (.int c),some (.lst []),none,none]) (ds:=cq 0 (P.map prD)) (WI m c P)
  (by simp[KG.Z,hP k]) ⟨0,[],P,none,none,rfl,by simp,rfl⟩ (by
   rintro x t σ ⟨j,ts,ps,v,u,e,s,rfl⟩;cases ps with
   |nil=>cases e
   |cons y ps=>
    rw[aY,cq]at e;injection e with e1 e2
    subst e1 e2;have hlen:ts.length<SZ:=by have:=s.length_le;simp at this;simp[SZ];lia
    have A:∀b:Bool,∃us,(us++ps).Sublist P/\us=if b then ts++[y]else ts:=by
     intro b;cases b
     ·exact⟨ts,(List.Sublist.append_left (List.sublist_cons_self _ _) _).trans s,rfl⟩
     ·exact⟨ts++[y],by simpa using s,rfl⟩
    refine⟨[some (.int m),some (.int c),some (.lst (ts.map prD)),some (.int j),some (prD y)],?_⟩;by_cases q:c%2=0
    ·obtain⟨us,a1,a2⟩:=A (decide (c/2/2^j%2=1));refine⟨[some (.int m),some (.int c),some (.lst (us.map prD)),some (.int j),some (prD y)],by simp[KG.Z],?_,j+1,us,ps,_,_,rfl,a1,rfl⟩;by_cases q2:c/2/2^j%2=1
     ·simp[KG.Z,op2,eq_int,q,q2,hlen]at a2 ⊢;subst a2;simp
     ·simp[KG.Z,op2,eq_int,q,q2]at a2 ⊢;subst a2;simp
    ·have q1:c%2=1:=by lia
     obtain⟨us,a1,a2⟩:=A (decide (st c j%5<1+c/2%3));refine⟨[some (.int m),some (.int c),some (.lst (us.map prD)),some (.int j),some (prD y)],by simp[KG.Z],?_,j+1,us,ps,_,_,rfl,a1,rfl⟩;by_cases q2:st c j%5<1+c/2%3
     ·simp[KG.Z,op2,eq_int,q1,lt_int,gp hS,q2,hlen]at a2 ⊢;subst a2;simp
     ·simp[KG.Z,op2,eq_int,q1,lt_int,gp hS,q2]at a2 ⊢;subst a2;simp)
 cases ps with
 |cons y ps=>cases e
 |nil=>
  refine⟨ts,g.sub (by simpa using s),?_⟩;rw[qc hW];refine qz (τ:=[some (.int m),some (.int c),none,none,none]) rfl rfl (zX (σ:=[some (.int m),some (.int c),some (.lst []),none,none]) (by simp[KG.Z]) (ev.trans ?_));simp[KG.Z,b1,seq?]
theorem xw(H:Lw p){k:Nat}(m c:Int)(h1:1<=m)(h2:m<=8):∃ts,GW m ts/\qa p (k+2) "_law_web_by" [.int m,.int c]=.ok (wb m ts):=sP H._law_stir H._law_pairs H._law_web_by m c h1 h2
theorem GS.filter{m:Int}(h1:1<=m)(h2:m<=8)(c:Int->Bool):GS m ((rng m).filter c):=
 ⟨(j7 m).sublist List.filter_sublist,λi hi=>iJ.mp (List.mem_filter.mp hi).1,aS (List.length_filter_le _ _) (by rw[jF];lia)⟩
theorem wz(H:Lw p){k:Nat}(m c:Int)(h1:1<=m)(h2:m<=8):∃s,GS m s/\qa p (k+2) "_law_some_by" [.int m,.int c]=.ok (tu s):=by
 have hm:qi m=true:=by simp[qi];lia
 by_cases q:c%2=0
 ·refine⟨_,GS.filter h1 h2 λi=>decide (c/2/2^i.toNat%2=1),?_⟩;have hc:evE ⟨qa p (k+1),p.glb,p.sub,p.cat⟩ (.comp (.rng (.var 0)) [none,none,some 1] (.nm 1) (.cmp .eq (.op .mod (.op .shr (.op .fdiv (.var 2) (.con (.int 2))) (.var 1)) (.con (.int 2))) (.con (.int 1))) (.var 1)) [some (.int m),some (.int c)]=.ok (.lst (((rng m).filter λi=>decide (c/2/2^i.toNat%2=1)).map D.int)):=by
   rw[<-hJ,<-dD];refine dO (c:=[some (.int c)]) ?_ ?_ rfl ?_
   ·simp[KG.Z,hm]
   ·simp[zo,SZ];lia
   ·intro x hx;rw[dD,aQ]at hx;obtain⟨b,hb,rfl⟩:=hx;have hb':=(iJ.mp hb).1;simp[KG.Z,op2,eq_int,hb'];by_cases q:c/2/2^b.toNat%2=1<;>simp[q]
  rw[qc H._law_some_by];refine qz rfl rfl ?_;simp[KG.Z,zG,op2,eq_int,q,hc,b1,seq?]
 ·have q1:c%2=1:=by lia
  refine⟨_,GS.filter h1 h2 λi=>decide (st c (i+60)%4<1+c/2%3),?_⟩;have hc:evE ⟨qa p (k+1),p.glb,p.sub,p.cat⟩ (.comp (.rng (.var 0)) [none,none,some 1] (.nm 1) (.cmp .lt (.op .mod (.call "_law_stir" (.cons (.var 2) (.cons (.op .add (.var 1) (.con (.int 60))) .nil))) (.con (.int 4))) (.op .add (.con (.int 1)) (.op .mod (.op .fdiv (.var 2) (.con (.int 2))) (.con (.int 3))))) (.var 1)) [some (.int m),some (.int c)]=.ok (.lst (((rng m).filter λi=>decide (st c (i+60)%4<1+c/2%3)).map D.int)):=by
   rw[<-hJ,<-dD];refine dO (c:=[some (.int c)]) ?_ ?_ rfl ?_
   ·simp[KG.Z,hm]
   ·simp[zo,SZ];lia
   ·intro x hx;rw[dD,aQ]at hx;obtain⟨b,hb,rfl⟩:=hx;simp[KG.Z,op2,lt_int,gp H._law_stir];by_cases q:st c (b+60)%4<1+c/2%3<;>simp[q]
  rw[qc H._law_some_by];refine qz rfl rfl ?_;simp[KG.Z,zG,op2,eq_int,q1,hc,b1,seq?]
theorem GS.none{m:Int}:GS m []:=⟨List.Pairwise.nil,by simp,by simp⟩
theorem GS.all{m:Int}(h1:1<=m)(h2:m<=8):GS m (rng m):=⟨j7 m,λi hi=>iJ.mp hi,by rw[jF];lia⟩
end
noncomputable def fj:Fn:=⟨2,5,false,(.cons (.set (.tp [2,3]) (.var 0)) (.cons (.set (.nm 4) (.lst (.cons (.con .non) (.cons (.var 2) (.cons (.tup (.cons (.var 2) .nil)) (.cons (.tup (.cons (.var 2) (.cons (.bi .list (.cons (.var 3) .nil)) .nil))) (.cons (.tup (.cons (.con (.int 0)) (.cons (.tup .nil) .nil))) (.cons (.tup (.cons (.con (.int 9)) (.cons (.tup .nil) .nil))) (.cons (.tup (.cons (.con (.bl true)) (.cons (.tup .nil) .nil))) (.cons (.tup (.cons (.var 2) (.cons (.op .add (.var 3) (.tup (.cons (.tup (.cons (.con (.int 0)) (.cons (.con (.int 0)) .nil))) .nil))) .nil))) .nil)))))))))) (.cons (.set (.nm 4) (.op .add (.var 4) (.lst (.cons (.tup (.cons (.var 2) (.cons (.op .add (.var 3) (.tup (.cons (.tup (.cons (.op .sub (.var 2) (.con (.int 1))) (.cons (.var 2) .nil))) .nil))) .nil))) (.cons (.tup (.cons (.var 2) (.cons (.op .add (.var 3) (.tup (.cons (.tup (.cons (.con (.int 1)) (.cons (.con (.int 0)) .nil))) .nil))) .nil))) (.cons (.lst (.cons (.var 2) (.cons (.var 3) .nil))) (.cons (.tup (.cons (.var 2) (.cons (.var 3) (.cons (.tup .nil) .nil)))) (.cons (.con (.str "1")) .nil)))))))) (.cons (.set (.nm 4) (.op .add (.var 4) (.lst (.cons (.tup (.cons (.var 2) (.cons (.con .non) .nil))) (.cons (.tup (.cons (.var 2) (.cons (.tup (.cons (.tup (.cons (.con (.int 0)) .nil)) .nil)) .nil))) (.cons (.tup (.cons (.neg (.con (.int 1))) (.cons (.tup .nil) .nil))) (.cons (.tup (.cons (.var 2) (.cons (.op .add (.var 3) (.tup (.cons (.con .non) .nil))) .nil))) (.cons (.tup (.cons (.var 2) (.cons (.tup (.cons (.tup (.cons (.con (.int 0)) (.cons (.con (.int 1)) .nil))) (.cons (.tup (.cons (.con (.int 0)) (.cons (.con (.int 1)) .nil))) .nil))) .nil))) .nil)))))))) (.cons (.ret (.ix (.op .add (.var 4) (.lst (.cons (.tup (.cons (.con (.str "1")) (.cons (.tup .nil) .nil))) (.cons .dic (.cons (.tup (.cons (.var 2) (.cons (.tup (.cons (.tup (.cons (.con (.bl false)) (.cons (.con (.int 1)) .nil))) .nil)) .nil))) (.cons (.tup (.cons (.op .pow (.con (.int 10)) (.con (.int 30))) (.cons (.tup .nil) .nil))) .nil)))))) (.op .mod (.var 1) (.con (.int 22))))) .nil)))))⟩
noncomputable def zx:Fn:=⟨3,4,false,(.cons (.set (.nm 3) (.lst (.cons (.bi .list (.cons (.var 1) .nil)) (.cons (.op .add (.var 1) (.tup (.cons (.var 0) .nil))) (.cons (.op .add (.tup (.cons (.neg (.con (.int 1))) .nil)) (.var 1)) (.cons (.con .non) (.cons (.con (.str "0")) (.cons (.con (.int 0)) (.cons (.op .add (.op .add (.op .add (.var 1) (.sl (.var 1) .none (.some (.con (.int 1))))) (.sl (.var 1) .none (.some (.con (.int 1))))) (.tup (.cons (.con (.int 0)) (.cons (.con (.int 0)) .nil)))) (.cons (.tup (.cons (.con (.bl true)) .nil)) .nil)))))))))) (.cons (.set (.nm 3) (.op .add (.var 3) (.lst (.cons (.tup (.cons (.con (.int 0)) (.cons (.con .non) .nil))) (.cons (.tup (.cons (.con (.str "0")) .nil)) (.cons .dic (.cons (.tup (.cons (.tup (.cons (.con (.int 0)) .nil)) .nil)) (.cons (.tup (.cons (.op .sub (.var 0) (.con (.int 1))) (.cons (.con (.int 0)) (.cons (.con (.int 0)) .nil)))) (.cons (.tup (.cons (.op .pow (.con (.int 10)) (.con (.int 30))) .nil)) (.cons (.tup (.cons (.con (.bl false)) (.cons (.var 0) .nil))) .nil)))))))))) (.cons (.ret (.ix (.var 3) (.op .mod (.var 2) (.con (.int 15))))) .nil)))⟩
noncomputable def od:D->Bool
 | .int _=>false
 | .fn _=>false
 | .exn _=>false
 |_=>true
noncomputable def nt:D->Bool
 | .tup _=>false
 | .fn _=>false
 | .exn _=>false
 |_=>true
theorem pick{l:List D}{P:D->Prop}(hL:∀d∈l,P d)(i:Int)(h:0<=i/\i<l.length):∃d,ixD (.lst l) (.int i)=.ok d/\P d:=by
 obtain⟨j,rfl⟩:∃j:Nat,i=j:=⟨i.toNat,by lia⟩
 have hj:j<l.length:=by lia
 refine⟨l[j],?_,hL _ (List.getElem_mem hj)⟩;simp only[ixD];rw[ff hj]
theorem kn(xs ys:List D)(h:xs.length+ys.length<=SZ):op2 .add (.tup xs) (.tup ys)=.ok (.tup (xs++ys)):=by
 rw[op2,if_pos ⟨rfl,h⟩]
noncomputable def lJ(d:D):Prop:=nt d=true\/(∃xs:List Int,d=tu xs/\xs.length<=40)\/∃ys:List D,d=.tup ys/\ys.length<=2/\(∀y∈ys,od y=true\/∃i,y=.int i)/\∃y∈ys,od y=true
noncomputable def cb(m T:Int)(TS:List D):List D:=[.non,.int m,.tup [.int m],.tup [.int m,.lst (TS)],.tup [.int 0,.tup []],.tup [.int 9,.tup []],.tup [.bl true,.tup []],.tup [.int m,.tup (TS++[.tup [.int 0,.int 0]])],.tup [.int m,.tup (TS++[.tup [.int (m-1),.int m]])],.tup [.int m,.tup (TS++[.tup [.int 1,.int 0]])],.lst [.int m,.tup (TS)],.tup [.int m,.tup (TS),.tup []],.str "1",.tup [.int m,.non],.tup [.int m,.tup [.tup [.int 0]]],.tup [.int (-1),.tup []],.tup [.int m,.tup (TS++[.non])],.tup [.int m,.tup [.tup [.int 0,.int 1],.tup [.int 0,.int 1]]],.tup [.str "1",.tup []],.dic,.tup [.int m,.tup [.tup [.bl false,.int 1]]],.tup [.int T,.tup []]]
section
variable{p:Pr}(B:Web p)
include B
theorem j_{k:Nat}{d:D}(h:od d=true):qa p (k+1) "is_whole" [d]=.ok (.bl false):=by
 rw[qc B.is_whole];cases d<;>first|(cases h;done)|rfl
theorem ja{k:Nat}(i a b:Int):qa p (k+2) "is_between" [.int i,.int a,.int b]=.ok (.bl (decide (a<=i/\i<=b))):=by
 have e1:qw .le (.int a) (.int i)=.ok (decide (a<=i)):=rfl;have e2:qw .le (.int i) (.int b)=.ok (decide (i<=b)):=rfl;by_cases q:a<=i
 ·have e1:qw .le (.int a) (.int i)=.ok true:=by rw[e1,decide_eq_true q]
  by_cases q2:i<=b
  ·have e2:qw .le (.int i) (.int b)=.ok true:=by rw[e2,decide_eq_true q2]
   rw[qc B.is_between];refine qz rfl rfl ?_;simp[KG.Z,zv,is_whole B,e1,e2,q,q2]
  ·have e2:qw .le (.int i) (.int b)=.ok false:=by rw[e2,decide_eq_false q2]
   rw[qc B.is_between];refine qz rfl rfl ?_;simp[KG.Z,zv,is_whole B,e1,e2,q,q2]
 ·have e1:qw .le (.int a) (.int i)=.ok false:=by rw[e1,decide_eq_false q]
  rw[qc B.is_between];refine qz rfl rfl ?_;simp[KG.Z,zv,is_whole B,e1,q]
theorem iS{k:Nat}{d:D}(h:od d=true)(a b:D):qa p (k+2) "is_between" [d,a,b]=.ok (.bl false):=by
 rw[qc B.is_between];refine qz rfl rfl ?_;simp[KG.Z,zv,j_ B h]
theorem dX{k:Nat}{d:D}(h:nt d=true):qa p (k+1) "is_pair" [d]=.ok (.bl false):=by
 rw[qc B.is_pair];cases d<;>first|(cases h;done)|rfl
theorem lq{k:Nat}(xs:List D):qa p (k+1) "is_pair" [.tup xs]=.ok (.bl (decide ((xs.length:Int)=2))):=by
 have e:=mI xs;have e2:=eq_int (xs.length:Int) 2;rw[qc B.is_pair];refine qz rfl rfl ?_;simp[KG.Z,ef,e,e2]
theorem jB{k:Nat}(a b m:Int):qa p (k+2) "is_tie" [.tup [.int a,.int b],.int m]=.ok (.bl (decide (0<=a/\a<b/\b<m))):=by
 have e1:qw .le (.int 0) (.int a)=.ok (decide (0<=a)):=rfl;have e2:qw .lt (.int a) (.int b)=.ok (decide (a<b)):=rfl;have e3:qw .lt (.int b) (.int m)=.ok (decide (b<m)):=rfl;by_cases q1:0<=a
 ·rw[decide_eq_true q1]at e1;by_cases q2:a<b
  ·rw[decide_eq_true q2]at e2;by_cases q3:b<m
   ·rw[decide_eq_true q3]at e3;rw[qc B.is_tie];refine qz rfl rfl ?_;simp[KG.Z,zK,is_pair B,is_whole B,e1,e2,e3,q1,q2,q3]
   ·rw[decide_eq_false q3]at e3;rw[qc B.is_tie];refine qz rfl rfl ?_;simp[KG.Z,zK,is_pair B,is_whole B,e1,e2,e3,q1,q2,q3]
  ·rw[decide_eq_false q2]at e2;rw[qc B.is_tie];refine qz rfl rfl ?_;simp[KG.Z,zK,is_pair B,is_whole B,e1,e2,q1,q2]
 ·rw[decide_eq_false q1]at e1;rw[qc B.is_tie];refine qz rfl rfl ?_;simp[KG.Z,zK,is_pair B,is_whole B,e1,q1]
theorem iZ{k:Nat}{d:D}{m:D}(h:∀k,qa p (k+1) "is_pair" [d]=.ok (.bl false)):qa p (k+2) "is_tie" [d,m]=.ok (.bl false):=by
 rw[qc B.is_tie];refine qz rfl rfl ?_;simp[KG.Z,zK,h]
theorem tm{k:Nat}{a b:D}{m:D}(h:od a=true):qa p (k+2) "is_tie" [.tup [a,b],m]=.ok (.bl false):=by
 rw[qc B.is_tie];refine qz rfl rfl ?_;simp[KG.Z,zK,is_pair B,j_ B h]
theorem jd{k:Nat}(xs:List D)(hz:xs.length<=100)(b:Nat->Bool)(h:∀(i:Nat) (q:i+1<xs.length),qw .lt xs[i] xs[i+1]=.ok (b i)):qa p (k+1) "rises" [.tup xs]=.ok (.bl ((aZ (xs.length-1)).all b)):=by
 rw[qc B.rises];refine qz (τ:=[some (.tup xs)]) rfl rfl ?_;have hr:qi ((xs.length:Int)-1)=true:=by simp[qi];lia
 have hc:evE ⟨qa p k,p.glb,p.sub,p.cat⟩ (.comp (.rng (.op .sub (.bi .len (.cons (.var 0) .nil)) (.con (.int 1)))) [none,none,some 0] (.nm 1) .yes (.cmp .lt (.ix (.var 2) (.var 1)) (.ix (.var 2) (.op .add (.var 1) (.con (.int 1)))))) [some (.tup xs)]=.ok (.lst ((aZ (xs.length-1)).map λi=>.bl (b i))):=by
  refine fJ (f:=λ(i:Nat)=>D.int (i:Int)) (c:=[some (.tup xs)]) (λi=>.bl (b i)) ?_ ?_ rfl ?_
  ·have e:zo 0 (xs.length-1)=(aZ (xs.length-1)).map λ(i:Nat)=>D.int (i:Int):=by
    rw[zo];simp
   simp[KG.Z,b1,seq?,op2,hr,e]
  ·simp[SZ];lia
  ·intro i hi;have hi:=List.mem_range.mp hi;have e1:atI xs (i:Int)=some xs[i]:=ff (by lia);have e2:atI xs ((i:Int)+1)=some xs[i+1]:=ff (i:=i+1) (by lia);have e3:=h i (by lia);simp[KG.Z,ixD,op2,e1,e2,e3]
 have h3:=iq (aZ (xs.length-1)) b;show qe _ (.cons (.ret (.bi .all (.cons _ .nil))) .nil) _=_;rw[qe,zk,qk,zj,hc];simp only[R.bind_ok,zj,h3,R.out_ok]
theorem d_{k:Nat}{d:D}(h:∀k,qa p (k+1) "is_pair" [d]=.ok (.bl false)):qa p (k+3) "is_web" [d]=.ok (.bl false):=by
 have h:=h (k+1);rw[qc B.is_web];refine qz rfl rfl ?_;simp[KG.Z,dw,h]
theorem gA{k:Nat}{a b:D}(h:∀k,qa p (k+2) "is_between" [a,.int 1,.int 8]=.ok (.bl false)):qa p (k+3) "is_web" [.tup [a,b]]=.ok (.bl false):=by
 rw[qc B.is_web];refine qz rfl rfl ?_;simp[KG.Z,dw,is_pair B,B.MOST,h]
theorem jh{k:Nat}{m:Int}(h:1<=m/\m<=8){b:D}(hb:nt b=true):qa p (k+3) "is_web" [.tup [.int m,b]]=.ok (.bl false):=by
 have e:∀w:W,bD w b (.ty "tuple")=.ok (.bl false):=λw=>by cases b<;>first|(cases hb;done)|rfl
 rw[qc B.is_web];refine qz rfl rfl ?_;simp[KG.Z,dw,is_pair B,is_between B m 1 8 h,B.MOST,e]
theorem iM{k:Nat}{m:Int}(h:1<=m/\m<=8){ys:List (D×Bool)}{xs:List D}(hx:xs=ys.map (·.1))(hz:xs.length<=100)(hf:∀y∈ys,qa p (k+2) "is_tie" [y.1,.int m]=.ok (.bl y.2))(hb:ys.all (·.2)=false\/qa p (k+2) "rises" [.tup xs]=.ok (.bl false)):qa p (k+3) "is_web" [.tup [.int m,.tup xs]]=.ok (.bl false):=by
 rw[qc B.is_web];refine qz (τ:=[some (.tup [.int m,.tup xs]),none,none]) rfl rfl ?_;have hc:evE ⟨qa p (k+2),p.glb,p.sub,p.cat⟩ (.comp (.seq (.var 2)) [none,none,some 1] (.nm 1) .yes (.call "is_tie" (.cons (.var 1) (.cons (.var 2) .nil)))) [some (.tup [.int m,.tup xs]),some (.int m),some (.tup xs)]=.ok (.lst (ys.map λx=>.bl x.2)):=by
  refine fJ (f:=λ(x:D×Bool)=>x.1) (c:=[some (.int m)]) (λ(x:D×Bool)=>.bl x.2) (by rw[<-hx];exact fb rfl) (by rw[hx]at hz;simp at hz;simp[SZ];lia) rfl λx hx=>?_
  have e:=hf x hx;simp[KG.Z,e]
 have h3:=iq ys (·.2);show qe _ (.cons (.ite _ _ _) (.cons (.set (.tp [1,2]) _) (.cons (.ite _ _ _) (.cons (.ret (.and (.bi .all (.cons _ .nil)) _)) .nil)))) _=_;refine zX (σ:=[some (.tup [.int m,.tup xs]),none,none]) (by simp[KG.Z,is_pair B]) ?_;refine zX (σ:=[some (.tup [.int m,.tup xs]),some (.int m),some (.tup xs)]) (by simp[KG.Z]) ?_;refine zX (σ:=[some (.tup [.int m,.tup xs]),some (.int m),some (.tup xs)]) (by simp[KG.Z,is_between B m 1 8 h,B.MOST]) ?_;rw[qe,zk,ql,qk,zj,hc];simp only[R.bind_ok,zj,h3];rcases hb with hb|hb
 ·rw[hb];rfl
 ·cases q:ys.all (·.2)with
  |false=>rfl
  |true=>simp[KG.Z,hb]
theorem si(hf:p.fns "_law_no_web" = some fj){k:Nat}{m:Int}{ts:List (Int×Int)}(h:GW m ts)(n:Int):∃d,qa p (k+1) "_law_no_web" [wb m ts,.int n]=.ok d/\∀k,qa p (k+3) "is_web" [d]=.ok (.bl false):=by
 have hm:1<=m/\m<=8:=⟨h.lo,h.hi⟩
 have hl:=h.len;have hz:(ts.map prD).length<=99:=by simp;lia
 have old:∀(k:Nat) (x:D),x∈ts.map prD->qa p (k+2) "is_tie" [x,.int m]=.ok (.bl true):=λk x hx=>by
  obtain⟨t,ht,rfl⟩:=aQ.mp hx;exact is_tie B t.1 t.2 m (h.ok t ht)
 -- a tie more that is none
 have more:∀(x:D),(∀k,qa p (k+2) "is_tie" [x,.int m]=.ok (.bl false))->∀k,qa p (k+3) "is_web" [.tup [.int m,.tup (ts.map prD++[x])]]=.ok (.bl false):=λx hx k=>by
  refine iM B hm (ys:=ts.map (λt=>(prD t,true))++[(x,false)]) (by simp) (by simp at hz ⊢;lia) (λy hy=>?_) (.inl (by simp));rcases List.mem_append.mp hy with z|z
  ·obtain⟨t,ht,rfl⟩:=aQ.mp z;exact is_tie B t.1 t.2 m (h.ok t ht)
  ·rw[List.mem_singleton.mp z];exact hx k
 have hT:op2 .pow (.int 10) (.int 30)=.ok (.int (10^30)):=by rw[op2,opI,if_pos (by decide)];rfl
 have hb:¬ ((1:Int)<=10^30/\(10:Int)^30<=8):=by decide
 generalize (10:Int)^30=T at *;have hL:∀d∈cb m T (ts.map prD),∀k,qa p (k+3) "is_web" [d]=.ok (.bl false):=by
  have num:∀(i:Int) (b:D),¬ (1<=i/\i<=8)->∀k,qa p (k+3) "is_web" [.tup [.int i,b]]=.ok (.bl false):=λi b hi k=>gA B λk=>by rw[ja B,decide_eq_false hi]
  have len:∀xs:List D,(xs.length:Int)≠2->∀k,qa p (k+3) "is_web" [.tup xs]=.ok (.bl false):=λxs hx k=>d_ B λk=>by rw[lq B,decide_eq_false hx]
  have one:∀x:D,(∀k,qa p (k+2) "is_tie" [x,.int m]=.ok (.bl false))->∀k,qa p (k+3) "is_web" [.tup [.int m,.tup [x]]]=.ok (.bl false):=λx hx k=>iM B hm (ys:=[(x,false)]) rfl (by simp) (λy hy=>by rw[List.mem_singleton.mp hy];exact hx k) (.inl rfl)
  have tv:∀a b:Int,¬ (0<=a/\a<b/\b<m)->∀k,qa p (k+2) "is_tie" [.tup [.int a,.int b],.int m]=.ok (.bl false):=λa b q k=>by rw[jB B,decide_eq_false q]
  simp only[cb,List.forall_mem_cons];refine⟨λk=>d_ B λk=>dX B rfl,λk=>d_ B λk=>dX B rfl,len _ (by simp),λk=>jh B hm rfl,num 0 _ (by decide),num 9 _ (by decide),λk=>gA B λk=>iS B rfl _ _,more _ (tv 0 0 (by lia)),more _ (tv (m-1) m (by lia)),more _ (tv 1 0 (by lia)),λk=>d_ B λk=>dX B rfl,len _ (by simp),λk=>d_ B λk=>dX B rfl,λk=>jh B hm rfl,one _ λk=>iZ B λk=>by rw[lq B];rfl,num (-1) _ (by decide),more _ λk=>iZ B λk=>dX B rfl,?_,λk=>gA B λk=>iS B rfl _ _,λk=>d_ B λk=>dX B rfl,one _ λk=>tm B rfl,num T _ hb,by simp⟩;intro k;refine iM B hm (ys:=[(.tup [.int 0,.int 1],decide (1<m)),(.tup [.int 0,.int 1],decide (1<m))]) rfl (by simp) (λy hy=>?_) ?_
  ·simp only[aI,bc,or_false,or_self]at hy;rw[hy,jB B];simp
  ·refine .inr ?_;have:=jd B (k:=k+1) [.tup [.int 0,.int 1],.tup [.int 0,.int 1]] (by simp) (λ_=>false) λi q=>by
    have:i=0:=by simp at q;lia
    subst this;rfl
   rw[this];rfl
 obtain⟨d,e,hd⟩:=pick hL (n%22) ⟨by lia,by show n%22<22;lia⟩;refine⟨d,?_,hd⟩;rw[qc hf];refine qz (τ:=[some (.tup [.int m,.tup (ts.map prD)]),some (.int n),none,none,none]) rfl rfl ?_;have a1:∀x:D,op2 .add (.tup (ts.map prD)) (.tup [x])=.ok (.tup (ts.map prD++[x])):=λx=>kn _ _ (by simp[SZ];lia)
 have a2:b1 .list [.tup (ts.map prD)]=.ok (.lst (ts.map prD)):=rfl;have a3:op2 .mod (.int n) (.int 22)=.ok (.int (n%22)):=rfl;have a4:op2 .sub (.int m) (.int 1)=.ok (.int (m-1)):=rfl;have a5:∀xs ys:List D,xs.length+ys.length<=100->op2 .add (.lst xs) (.lst ys)=.ok (.lst (xs++ys)):=λxs ys q=>by rw[op2,if_pos ⟨rfl,by simp[SZ];lia⟩]
 generalize ts.map prD=TS at *;show qe _ (.cons _ (.cons _ (.cons _ (.cons _ (.cons _ .nil))))) _=_;refine zX (σ:=[some (.tup [.int m,.tup TS]),some (.int n),some (.int m),some (.tup TS),none]) (by simp[KG.Z]) ?_;refine zX (σ:=[some (.tup [.int m,.tup TS]),some (.int n),some (.int m),some (.tup TS),some (.lst ((cb m T TS).take 8))]) (by simp[KG.Z,a1,a2,cb]) ?_;refine zX (σ:=[some (.tup [.int m,.tup TS]),some (.int n),some (.int m),some (.tup TS),some (.lst ((cb m T TS).take 13))]) (by simp[KG.Z,a1,a4,a5,cb]) ?_;refine zX (σ:=[some (.tup [.int m,.tup TS]),some (.int n),some (.int m),some (.tup TS),some (.lst ((cb m T TS).take 18))]) (by simp[KG.Z,a1,a5,cb,qZ]) ?_;rw[qe,zk,qq];have f1:evE ⟨qa p k,p.glb,p.sub,p.cat⟩ (.op .add (.var 4) (.lst (.cons (.tup (.cons (.con (.str "1")) (.cons (.tup .nil) .nil))) (.cons .dic (.cons (.tup (.cons (.var 2) (.cons (.tup (.cons (.tup (.cons (.con (.bl false)) (.cons (.con (.int 1)) .nil))) .nil)) .nil))) (.cons (.tup (.cons (.op .pow (.con (.int 10)) (.con (.int 30))) (.cons (.tup .nil) .nil))) .nil)))))) [some (.tup [.int m,.tup TS]),some (.int n),some (.int m),some (.tup TS),some (.lst ((cb m T TS).take 18))]=.ok (.lst (cb m T TS)):=by simp[KG.Z,hT,a5,cb,qt]
 rw[f1];have f2:evE ⟨qa p k,p.glb,p.sub,p.cat⟩ (.op .mod (.var 1) (.con (.int 22))) [some (.tup [.int m,.tup TS]),some (.int n),some (.int m),some (.tup TS),some (.lst ((cb m T TS).take 18))]=.ok (.int (n%22)):=by simp[KG.Z,a3]
 rw[f2];simp only[R.bind_ok];rw[e];rfl
theorem jJ{k:Nat}(S:cN p)(i m:Int)(t:D):qa p (k+3) "is_place" [.tup [.int m,t],.int i]=.ok (.bl (decide (0<=i/\i<=m-1))):=by
 have e:=ja B (k:=k) i 0 (m-1);rw[qc S.is_place];refine qz rfl rfl ?_;simp[KG.Z,zS,ixD,atI,ixN,op2,e]
theorem iu{k:Nat}(S:cN p){d:D}(h:od d=true)(m:Int)(t:D):qa p (k+3) "is_place" [.tup [.int m,t],d]=.ok (.bl false):=by
 have e:=λa b=>iS B (k:=k) h a b
 rw[qc S.is_place];refine qz rfl rfl ?_;simp[KG.Z,zS,ixD,atI,ixN,op2,e]
theorem fk{k:Nat}(S:cN p){d:D}(h:nt d=true)(u:D):qa p (k+4) "is_some" [u,d]=.ok (.bl false):=by
 have e:∀w:W,bD w d (.ty "tuple")=.ok (.bl false):=λw=>by cases d<;>first|(cases h;done)|rfl
 rw[qc S.is_some];refine qz rfl rfl ?_;simp[KG.Z,dB,e]
theorem lD{k:Nat}(S:cN p){u:D}{ys:List (D×Bool)}{xs:List D}(hx:xs=ys.map (·.1))(hz:xs.length<=100)(hf:∀y∈ys,qa p (k+3) "is_place" [u,y.1]=.ok (.bl y.2))(hb:ys.all (·.2)=false\/qa p (k+3) "rises" [.tup xs]=.ok (.bl false)):qa p (k+4) "is_some" [u,.tup xs]=.ok (.bl false):=by
 rw[qc S.is_some];refine qz (τ:=[some u,some (.tup xs)]) rfl rfl ?_;have hc:evE ⟨qa p (k+3),p.glb,p.sub,p.cat⟩ (.comp (.seq (.var 1)) [none,none,some 0] (.nm 1) .yes (.call "is_place" (.cons (.var 2) (.cons (.var 1) .nil)))) [some u,some (.tup xs)]=.ok (.lst (ys.map λx=>.bl x.2)):=by
  refine fJ (f:=λ(x:D×Bool)=>x.1) (c:=[some u]) (λ(x:D×Bool)=>.bl x.2) (by rw[<-hx];exact fb rfl) (by rw[hx]at hz;simp at hz;simp[SZ];lia) rfl λx hx=>?_
  have e:=hf x hx;simp[KG.Z,e]
 have h3:=iq ys (·.2);show qe _ (.cons (.ite _ _ _) (.cons (.ret (.and (.bi .all (.cons _ .nil)) _)) .nil)) _=_;refine zX (σ:=[some u,some (.tup xs)]) (by simp[KG.Z]) ?_;rw[qe,zk,ql,qk,zj,hc];simp only[R.bind_ok,zj,h3];rcases hb with hb|hb
 ·rw[hb];rfl
 ·cases q:ys.all (·.2)with
  |false=>rfl
  |true=>simp[KG.Z,hb]
theorem uV{k:Nat}(ns:List Int)(hz:ns.length<=50):qa p (k+1) "rises" [.tup ((ns++[0,0]).map D.int)]=.ok (.bl false):=by
 have:=jd B (k:=k) ((ns++[0,0]).map D.int) (by simp;lia) (λi=>decide ((ns++[0,0])[i]! < (ns++[0,0])[i+1]!)) λi q=>by
  have q1:i+1<(ns++[0,0]).length:=by simpa using q
  rw[List.getElem_map,List.getElem_map,lt_int,getElem!_pos _ i (by lia),getElem!_pos _ (i+1) q1]
 rw[this]
 congr 2
 rw[List.all_eq_false];refine⟨ns.length,by simp,?_⟩;simp
theorem uQ(S:cN p)(hf:p.fns "_law_no_places" = some zx){k:Nat}{m:Int}(hm:1<=m/\m<=8)(t:D){s:List Int}(g:GS m s)(n:Int):∃d,qa p (k+1) "_law_no_places" [.int m,tu s,.int n]=.ok d/\(∀k,qa p (k+4) "is_some" [.tup [.int m,t],d]=.ok (.bl false))/\lJ d:=by
 have hl:=g.len;have hT:op2 .pow (.int 10) (.int 30)=.ok (.int (10^30)):=by rw[op2,opI,if_pos (by decide)];rfl
 have h8:(8:Int)<10^30:=by decide
 generalize (10:Int)^30=T at *;have hb:¬ (0<=T/\T<=m-1):=by lia
 -- a place that is none, at any place
 have bad:∀(k:Nat) (xs:List (D×Bool)),xs.length<=100->(∀y∈xs,qa p (k+3) "is_place" [.tup [.int m,t],y.1]=.ok (.bl y.2))->xs.all (·.2)=false->qa p (k+4) "is_some" [.tup [.int m,t],.tup (xs.map (·.1))]=.ok (.bl false):=λk xs h1 h2 h3=>lD B S (ys:=xs) rfl (by simpa using h1) h2 (.inl h3)
 have low:∀(k:Nat) (ns:List Int),ns.length<=50->qa p (k+4) "is_some" [.tup [.int m,t],.tup ((ns++[0,0]).map D.int)]=.ok (.bl false):=λk ns h1=>by
  refine lD B S (ys:=(ns++[0,0]).map λi=>(.int i,decide (0<=i/\i<=m-1))) (by simp) (by simp;lia) (λy hy=>?_) (.inr (uV B (k:=k+2) ns h1));obtain⟨i,_,rfl⟩:=aQ.mp hy;exact jJ B S i m t
 have pv:∀(k:Nat) (i:Int),qa p (k+3) "is_place" [.tup [.int m,t],.int i]=.ok (.bl (decide (0<=i/\i<=m-1))):=λk i=>jJ B S i m t
 have nums:∀(k:Nat) (ns:List Int),ns.length<=100->(∃i∈ns,¬ (0<=i/\i<=m-1))->qa p (k+4) "is_some" [.tup [.int m,t],.tup (ns.map D.int)]=.ok (.bl false):=λk ns h1 ⟨i,h2,h3⟩=>by
  have:=bad k (ns.map λi=>(.int i,decide (0<=i/\i<=m-1))) (by simpa using h1) (λy hy=>by obtain⟨j,_,rfl⟩:=aQ.mp hy;exact pv k j) (by rw[List.all_map,List.all_eq_false];exact⟨i,h2,by simp only[Function.comp,decide_eq_true_eq];exact h3⟩);rw[List.map_map]at this;exact this
 obtain⟨s1,hs1⟩:∃s1:List Int,slD (tu s) none (some 1)=.ok (tu s1)/\s1.length<=8:=by
  refine⟨(s.drop (HT.sIx s.length 0 none)).take (HT.sIx s.length s.length (some 1)-HT.sIx s.length 0 none),?_,by simp;lia⟩;show R.ok (D.tup (cutD (s.map D.int) none (some 1)))=_;rw[cutD,bK,<-List.map_drop,<-List.map_take]
 obtain⟨hs1,hs2⟩:=hs1
 let L:List D:=[.lst (s.map D.int),.tup ((s++[m]).map D.int),.tup ((-1::s).map D.int),.non,.str "0",.int 0,.tup (((s++s1++s1)++[0,0]).map D.int),.tup [.bl true],.tup [.int 0,.non],.tup [.str "0"],.dic,.tup [.tup [.int 0]],.tup (([m-1]++[0,0]).map D.int),.tup ([T].map D.int),.tup [.bl false,.int m]]
 have hL:∀d∈L,∀k,qa p (k+4) "is_some" [.tup [.int m,t],d]=.ok (.bl false):=by
  have one:∀(x:D),od x=true->∀k,qa p (k+4) "is_some" [.tup [.int m,t],.tup [x]]=.ok (.bl false):=λx hx k=>bad k [(x,false)] (by simp) (λy hy=>by rw[List.mem_singleton.mp hy];exact iu B S hx m t) rfl
  simp only[L,List.forall_mem_cons];refine⟨λk=>fk B S rfl _,λk=>nums k _ (by simp;lia) ⟨m,by simp,by lia⟩,λk=>nums k _ (by simp;lia) ⟨-1,by simp,by lia⟩,λk=>fk B S rfl _,λk=>fk B S rfl _,λk=>fk B S rfl _,λk=>low k _ (by simp;lia),one _ rfl,?_,one _ rfl,λk=>fk B S rfl _,one _ rfl,λk=>low k _ (by simp),λk=>nums k _ (by simp) ⟨T,by simp,hb⟩,?_,by simp⟩
  ·intro k;refine bad k [(.int 0,decide ((0:Int)<=0/\(0:Int)<=m-1)),(.non,false)] (by simp) (λy hy=>?_) (by simp);simp only[aI,bc,or_false]at hy;rcases hy with rfl|rfl
   ·exact pv k 0
   ·exact iu B S rfl m t
  ·intro k;refine bad k [(.bl false,false),(.int m,decide (0<=m/\m<=m-1))] (by simp) (λy hy=>?_) (by simp);simp only[aI,bc,or_false]at hy;rcases hy with rfl|rfl
   ·exact iu B S rfl m t
   ·exact pv k m
 have hO:∀d∈L,lJ d:=by
  simp only[L,List.forall_mem_cons];refine⟨.inl rfl,.inr (.inl ⟨_,rfl,by simp;lia⟩),.inr (.inl ⟨_,rfl,by simp;lia⟩),.inl rfl,.inl rfl,.inl rfl,.inr (.inl ⟨_,rfl,by simp;lia⟩),.inr (.inr ⟨_,rfl,by simp,by simp[od],by simp[od]⟩),.inr (.inr ⟨_,rfl,by simp,by simp[od],by simp[od]⟩),.inr (.inr ⟨_,rfl,by simp,by simp[od],by simp[od]⟩),.inl rfl,.inr (.inr ⟨_,rfl,by simp,by simp[od],by simp[od]⟩),.inr (.inl ⟨_,rfl,by simp⟩),.inr (.inl ⟨_,rfl,by simp⟩),.inr (.inr ⟨_,rfl,by simp,by simp[od],by simp[od]⟩),by simp⟩
 obtain⟨d,e,hd⟩:=pick (λd hd=>aj (hL d hd) (hO d hd)) (n%15) ⟨by lia,by show n%15<15;lia⟩;refine⟨d,?_,hd⟩;rw[qc hf];refine qz (τ:=[some (.int m),some (tu s),some (.int n),none]) rfl rfl ?_;have a1:∀xs ys:List Int,xs.length<=60->ys.length<=20->op2 .add (tu xs) (tu ys)=.ok (tu (xs++ys)):=λxs ys q1 q2=>by
  rw[tu,tu,kn _ _ (by simp[SZ];lia),<-List.map_append]
 have a2:b1 .list [tu s]=.ok (.lst (s.map D.int)):=rfl;have a3:op2 .mod (.int n) (.int 15)=.ok (.int (n%15)):=rfl;have a4:op2 .sub (.int m) (.int 1)=.ok (.int (m-1)):=rfl;have a5:∀xs ys:List D,xs.length+ys.length<=100->op2 .add (.lst xs) (.lst ys)=.ok (.lst (xs++ys)):=λxs ys q=>by rw[op2,if_pos ⟨rfl,by simp[SZ];lia⟩]
 have b1':op2 .add (tu s) (.tup [.int m])=.ok (.tup ((s++[m]).map D.int)):=a1 s [m] (by lia) (by simp);have b2':op2 .add (.tup [.int (-1)]) (tu s)=.ok (.tup ((-1::s).map D.int)):=a1 [-1] s (by simp) (by lia);have b3':op2 .add (tu s) (tu s1)=.ok (tu (s++s1)):=a1 s s1 (by lia) (by lia);have b4':op2 .add (tu (s++s1)) (tu s1)=.ok (tu (s++s1++s1)):=a1 (s++s1) s1 (by simp;lia) (by lia);have b5':op2 .add (tu (s++s1++s1)) (.tup [.int 0,.int 0])=.ok (.tup (((s++s1++s1)++[0,0]).map D.int)):=a1 (s++s1++s1) [0,0] (by simp;lia) (by simp);show qe _ (.cons _ (.cons _ (.cons _ .nil))) _=_;have L1:L.take 8=[.lst (s.map D.int),.tup ((s++[m]).map D.int),.tup ((-1::s).map D.int),.non,.str "0",.int 0,.tup (((s++s1++s1)++[0,0]).map D.int),.tup [.bl true]]:=rfl;have L2:L=L.take 8++[.tup [.int 0,.non],.tup [.str "0"],.dic,.tup [.tup [.int 0]],.tup (([m-1]++[0,0]).map D.int),.tup ([T].map D.int),.tup [.bl false,.int m]]:=rfl;refine zX (σ:=[some (.int m),some (tu s),some (.int n),some (.lst (L.take 8))]) ?_ ?_
 ·rw[L1];generalize D.tup (((s++s1++s1)++[0,0]).map D.int)=Z5 at *;generalize D.tup ((s++[m]).map D.int)=Z1 at *;generalize D.tup ((-1::s).map D.int)=Z2 at *;generalize s.map D.int=Z0 at *;generalize tu (s++s1++s1)=Z4 at *;generalize tu (s++s1)=Z3 at *;generalize tu s1=Y1 at *;simp[KG.Z,a2,b1',b2',b3',b4',b5',hs1,qZ]
 refine zX (σ:=[some (.int m),some (tu s),some (.int n),some (.lst L)]) ?_ ?_
 ·have hlen:(L.take 8).length=8:=rfl;generalize L.take 8=Z at *;rw[L2];have a6:=a5 Z [.tup [.int 0,.non],.tup [.str "0"],.dic,.tup [.tup [.int 0]],.tup (([m-1]++[0,0]).map D.int),.tup ([T].map D.int),.tup [.bl false,.int m]] (by simp[hlen]);simp only[aY,List.map_nil,List.cons_append,List.nil_append]at a6;simp[KG.Z,a4,hT,a6,qt]
 generalize L=Z at *;rw[qe,zk,qq];have f1:evE ⟨qa p k,p.glb,p.sub,p.cat⟩ (.var 3) [some (.int m),some (tu s),some (.int n),some (.lst Z)]=.ok (.lst Z):=rfl;have f2:evE ⟨qa p k,p.glb,p.sub,p.cat⟩ (.op .mod (.var 2) (.con (.int 15))) [some (.int m),some (tu s),some (.int n),some (.lst Z)]=.ok (.int (n%15)):=by simp[KG.Z,a3]
 rw[f1,f2];simp only[R.bind_ok];rw[e];rfl
theorem vv(S:cN p)(hf:p.fns "_law_no_places" = some zx){k:Nat}{m:Int}(hm:1<=m/\m<=8)(t:D){s:List Int}(g:GS m s)(n:Int):∃d,qa p (k+1) "_law_no_places" [.int m,tu s,.int n]=.ok d/\∀k,qa p (k+4) "is_some" [.tup [.int m,t],d]=.ok (.bl false):=by
 obtain⟨d,a,b,_⟩:=uQ B S hf (k:=k) hm t g n;exact⟨d,a,b⟩
end
end KG
namespace K90
open PySem PySem.Spec PyProof.Rows L2 EV
noncomputable def top(i:Nat):Stmt:=PySem.Challenge.pw_holdplaces_k90_webs_and_places_written.main.body.getD i (.Pass ⟨0,0,0,0⟩)
abbrev fQ:Fn:=KG.fQ
abbrev zv:Fn:=KG.zv
abbrev ef:Fn:=KG.ef
abbrev fh:Fn:=KG.fh
abbrev dw:Fn:=KG.dw
abbrev zK:Fn:=KG.zK
abbrev dS:Fn:=KG.dS
abbrev zS:Fn:=KG.zS
abbrev dB:Fn:=KG.dB
abbrev dP:Fn:=KG.dP
noncomputable def iA:Fn:=⟨1,3,false,(.cons (.exp (.call "need_web" (.cons (.var 0) .nil))) (.cons (.set (.tp [1,2]) (.var 0)) (.cons (.ret (.joi " " (.op .add (.lst (.cons (.stri (.var 1)) .nil)) (.comp (.seq (.var 2)) [none,none,none] (.tp [1,2]) .yes (.fsm (.var 1) "-" (.var 2)))))) .nil)))⟩
noncomputable def fP:Fn:=⟨2,2,false,(.cons (.exp (.call "need_web" (.cons (.var 0) .nil))) (.cons (.exp (.call "need_some" (.cons (.var 0) (.cons (.var 1) .nil)))) (.cons (.ret (.ite (.val (.var 1)) (.joi "," (.comp (.seq (.var 1)) [none,none] (.nm 1) .yes (.stri (.var 1)))) (.glb "NONE"))) .nil)))⟩
noncomputable def jG:Fn:=⟨1,2,false,(.cons (.set (.nm 1) (.lst (.cons (.isi (.var 0) (.ex "NoWeb")) (.cons (.isi (.var 0) (.ex "NoPlaces")) (.cons (.isi (.var 0) (.ex "NoPlace")) (.cons (.isi (.var 0) (.ex "NoNumber")) .nil)))))) (.cons (.set (.nm 1) (.op .add (.var 1) (.lst (.cons (.isi (.var 0) (.ex "NotUntied")) (.cons (.isi (.var 0) (.ex "NoShares")) (.cons (.isi (.var 0) (.ex "NotTree")) (.cons (.isi (.var 0) (.ex "NotTold")) .nil))))))) (.cons (.set (.nm 1) (.op .add (.var 1) (.lst (.cons (.isi (.var 0) (.ex "NoCrowds")) (.cons (.isi (.var 0) (.ex "NoText")) (.cons (.isi (.var 0) (.ex "NoLine")) (.cons (.isi (.var 0) (.ex "NoDeed")) .nil))))))) (.cons (.set (.nm 1) (.op .add (.var 1) (.lst (.cons (.isi (.var 0) (.ex "NotAll")) (.cons (.isi (.var 0) (.ex "TooGreat")) .nil))))) (.cons (.ite (.or (.not (.val (.isi (.var 0) (.ty "ValueError")))) (.cmp .ne (.mth false (.var 1)) (.con (.int 1)))) (.cons (.ret (.neg (.con (.int 1)))) .nil) .nil) (.cons (.ret (.mth true (.var 1))) .nil))))))⟩
abbrev dR:Fn:=KG.dR
abbrev zz:Fn:=KG.zz
abbrev fu:Fn:=KG.fu
abbrev eK:Fn:=KG.eK
noncomputable def lr:Fn:=⟨1,1,false,(.cons (.ret (.joi " " (.op .add (.lst (.cons (.stri (.ix (.var 0) (.con (.int 0)))) .nil)) (.comp (.seq (.ix (.var 0) (.con (.int 1)))) [none,none,none] (.tp [1,2]) .yes (.sadd (.sadd (.stri (.var 1)) (.con (.str "-"))) (.stri (.var 2))))))) .nil)⟩
abbrev zG:Fn:=KG.zG
noncomputable def ij:Fn:=⟨1,1,false,(.cons (.ite (.cmp .eq (.var 0) (.tup .nil)) (.cons (.ret (.con (.str "none"))) .nil) .nil) (.cons (.ret (.joi "," (.comp (.seq (.var 0)) [none,none] (.nm 1) .yes (.stri (.var 1))))) .nil))⟩
abbrev zx:Fn:=KG.zx
abbrev fj:Fn:=KG.fj
noncomputable def i0:Fn:=⟨3,4,false,(.cons (.try (.cons (.ret (.ite (.cmp .eq (.var 0) (.con (.int 0))) (.call "shown" (.cons (.var 1) .nil)) (.call "shown_some" (.cons (.var 1) (.cons (.var 2) .nil))))) .nil) "PlaceError" (some 3) (.cons (.ret (.call "_law_kinds" (.cons (.var 3) .nil))) .nil)) .nil)⟩
noncomputable def eP:Fn:=⟨1,7,false,(.cons (.for (.nm 1) (.seq (.op .add (.sl (.var 0) .none (.some (.con (.int 8)))) (.lst (.cons (.con (.int 0)) (.cons (.con (.int 3)) .nil))))) (.cons (.set (.nm 2) (.op .add (.con (.int 1)) (.op .mod (.op .fdiv (.var 1) (.con (.int 64))) (.con (.int 8))))) (.cons (.set (.nm 3) (.call "_law_web_by" (.cons (.var 2) (.cons (.op .fdiv (.var 1) (.con (.int 512))) .nil)))) (.cons (.ite (.not (.val (.call "_law_same" (.cons (.call "_law_told" (.cons (.con (.int 0)) (.cons (.var 3) (.cons (.con .non) .nil)))) (.cons (.call "_law_web_text" (.cons (.var 3) .nil)) .nil))))) (.cons (.ret (.con (.bl false))) .nil) .nil) (.cons (.for (.nm 4) (.seq (.lst (.cons (.call "_law_some_by" (.cons (.var 2) (.cons (.call "_law_stir" (.cons (.var 1) (.cons (.con (.int 1)) .nil))) .nil))) (.cons (.tup .nil) (.cons (.rtup (.rng (.var 2))) .nil))))) (.cons (.ite (.not (.val (.call "_law_same" (.cons (.call "_law_told" (.cons (.con (.int 1)) (.cons (.var 3) (.cons (.var 4) .nil)))) (.cons (.call "_law_some_text" (.cons (.var 4) .nil)) .nil))))) (.cons (.ret (.con (.bl false))) .nil) .nil) .nil)) (.cons (.set (.nm 5) (.call "_law_no_places" (.cons (.var 2) (.cons (.tup .nil) (.cons (.call "_law_stir" (.cons (.var 1) (.cons (.con (.int 2)) .nil))) .nil))))) (.cons (.set (.nm 6) (.call "_law_no_web" (.cons (.var 3) (.cons (.call "_law_stir" (.cons (.var 1) (.cons (.con (.int 3)) .nil))) .nil)))) (.cons (.ite (.or (.cmp .ne (.call "_law_told" (.cons (.con (.int 1)) (.cons (.var 3) (.cons (.var 5) .nil)))) (.con (.int 1))) (.or (.cmp .ne (.call "_law_told" (.cons (.con (.int 0)) (.cons (.var 6) (.cons (.con .non) .nil)))) (.con (.int 0))) (.cmp .ne (.call "_law_told" (.cons (.con (.int 1)) (.cons (.var 6) (.cons (.var 5) .nil)))) (.con (.int 0))))) (.cons (.ret (.con (.bl false))) .nil) .nil) .nil)))))))) (.cons (.ret (.and (.cmp .eq (.call "_law_told" (.cons (.con (.int 0)) (.cons (.tup (.cons (.con (.int 3)) (.cons (.tup (.cons (.tup (.cons (.con (.int 0)) (.cons (.con (.int 1)) .nil))) (.cons (.tup (.cons (.con (.int 1)) (.cons (.con (.int 2)) .nil))) .nil))) .nil))) (.cons (.con .non) .nil)))) (.con (.str "3 0-1 1-2"))) (.cmp .eq (.call "_law_told" (.cons (.con (.int 1)) (.cons (.tup (.cons (.con (.int 3)) (.cons (.tup .nil) .nil))) (.cons (.tup (.cons (.con (.int 0)) (.cons (.con (.int 2)) .nil))) .nil)))) (.con (.str "0,2"))))) .nil))⟩
abbrev w_:Ent:=⟨"is_whole",top 17,[],false,fQ⟩
abbrev oE:Ent:=⟨"is_between",top 18,[],false,zv⟩
abbrev nS:Ent:=⟨"is_pair",top 19,[],false,ef⟩
abbrev sW:Ent:=⟨"rises",top 20,[],false,fh⟩
abbrev pP:Ent:=⟨"is_web",top 23,[],false,dw⟩
abbrev vz:Ent:=⟨"is_tie",top 24,[],false,zK⟩
abbrev vL:Ent:=⟨"need_web",top 25,[],false,dS⟩
abbrev rM:Ent:=⟨"is_place",top 26,[],false,zS⟩
abbrev nA:Ent:=⟨"is_some",top 28,[],false,dB⟩
abbrev vo:Ent:=⟨"need_some",top 29,[],false,dP⟩
abbrev vT:Ent:=⟨"shown",top 32,[],false,iA⟩
abbrev w6:Ent:=⟨"shown_some",top 33,[],false,fP⟩
abbrev lK:Ent:=⟨"_law_kinds",top 35,[],false,jG⟩
abbrev sN:Ent:=⟨"_law_pairs",top 36,[],false,dR⟩
abbrev uG:Ent:=⟨"_law_stir",top 37,[],false,zz⟩
abbrev tj:Ent:=⟨"_law_web_by",top 38,[ag "_law_ties"],false,fu⟩
abbrev oB:Ent:=⟨"_law_same",top 39,[],false,eK⟩
abbrev pB:Ent:=⟨"_law_web_text",top 40,[],false,lr⟩
abbrev we:Ent:=⟨"_law_some_by",top 41,[],false,zG⟩
abbrev wK:Ent:=⟨"_law_some_text",top 42,[],false,ij⟩
abbrev u7:Ent:=⟨"_law_no_places",top 43,[],false,zx⟩
abbrev rz:Ent:=⟨"_law_no_web",top 44,[],false,fj⟩
abbrev s_:Ent:=⟨"_law_told",top 45,[],false,i0⟩
abbrev dU:Ent:=⟨"law",top 46,[],false,eP⟩
abbrev tab:List Ent:=[w_,oE,nS,sW,pP,vz,vL,rM,nA,vo,vT,w6,lK,sN,uG,tj,oB,pB,we,wK,u7,rz,s_,dU]
abbrev oth:List (Str×GK):=[(ag "PlaceError",GK.exk),(ag "NoWeb",GK.exc),(ag "NoPlaces",GK.exc),(ag "NoPlace",GK.exk),(ag "NoNumber",GK.exk),(ag "NotAll",GK.exk),(ag "NotUntied",GK.exk),(ag "NoShares",GK.exk),(ag "NotTree",GK.exk),(ag "NotTold",GK.exk),(ag "NoCrowds",GK.exk),(ag "NoText",GK.exk),(ag "NoLine",GK.exk),(ag "NoDeed",GK.exk),(ag "TooGreat",GK.exk),(ag "MOST",GK.val),(ag "NONE",GK.val),(ag "len",GK.bi .len),(ag "tuple",GK.ty "tuple" (some .tuple)),(ag "list",GK.ty "list" (some .list)),(ag "int",GK.ty "int" (some .int)),(ag "bool",GK.ty "bool" (some .bool)),(ag "str",GK.ty "str" none),(ag "all",GK.bi .all),(ag "range",GK.rng),(ag "enumerate",GK.enum),(ag "zip",GK.zip),(ag "isinstance",GK.isi),(ag "ValueError",GK.ty "ValueError" none)]
abbrev vals:List (Str×D):=[(ag "MOST",(.int 8)),(ag "NONE",(.str "none"))]
abbrev G:List (Str×GK):=tab.map (λe=>(e.x,GK.fn e.fr))++oth
abbrev bO:List (Str×Str):=[(ag "NoWeb",ag "PlaceError"),(ag "NoPlaces",ag "PlaceError")]
abbrev us:List Ent:=[lK]
abbrev subs:List ((Str×Cl)×Bool):=[((ag "NoWeb",.ty "ValueError"),true),((ag "NoWeb",.ex (ag "NoWeb")),true),((ag "NoWeb",.ex (ag "NoPlaces")),false),((ag "NoWeb",.ex (ag "NoPlace")),false),((ag "NoWeb",.ex (ag "NoNumber")),false),((ag "NoWeb",.ex (ag "NotUntied")),false),((ag "NoWeb",.ex (ag "NoShares")),false),((ag "NoWeb",.ex (ag "NotTree")),false),((ag "NoWeb",.ex (ag "NotTold")),false),((ag "NoWeb",.ex (ag "NoCrowds")),false),((ag "NoWeb",.ex (ag "NoText")),false),((ag "NoWeb",.ex (ag "NoLine")),false),((ag "NoWeb",.ex (ag "NoDeed")),false),((ag "NoWeb",.ex (ag "NotAll")),false),((ag "NoWeb",.ex (ag "TooGreat")),false),((ag "NoPlaces",.ty "ValueError"),true),((ag "NoPlaces",.ex (ag "NoWeb")),false),((ag "NoPlaces",.ex (ag "NoPlaces")),true),((ag "NoPlaces",.ex (ag "NoPlace")),false),((ag "NoPlaces",.ex (ag "NoNumber")),false),((ag "NoPlaces",.ex (ag "NotUntied")),false),((ag "NoPlaces",.ex (ag "NoShares")),false),((ag "NoPlaces",.ex (ag "NotTree")),false),((ag "NoPlaces",.ex (ag "NotTold")),false),((ag "NoPlaces",.ex (ag "NoCrowds")),false),((ag "NoPlaces",.ex (ag "NoText")),false),((ag "NoPlaces",.ex (ag "NoLine")),false),((ag "NoPlaces",.ex (ag "NoDeed")),false),((ag "NoPlaces",.ex (ag "NotAll")),false),((ag "NoPlaces",.ex (ag "TooGreat")),false)]
abbrev p:Pr:=prT tab vals bO subs
theorem j8:p.fns "shown" = some iA:=by kernel_rfl
theorem iz:p.fns "shown_some" = some fP:=by kernel_rfl
theorem jr:p.fns "_law_kinds" = some jG:=by kernel_rfl
theorem vq:p.fns "_law_web_text" = some lr:=by kernel_rfl
theorem u9:p.fns "_law_some_text" = some ij:=by kernel_rfl
theorem la:p.fns "_law_told" = some i0:=by kernel_rfl
theorem tM:p.fns "law" = some eP:=by kernel_rfl
theorem pF:p.glb "NONE" = some (.str "none"):=by kernel_rfl
end K90
namespace K90
open EV KG
open PySem (Str PyData.strOk)
open L2 (atI ixN ltP cK bN)
theorem B:Web p:=⟨by kernel_rfl,by kernel_rfl,by kernel_rfl,by kernel_rfl,by kernel_rfl,by kernel_rfl,by kernel_rfl,by kernel_rfl⟩
theorem S:fi p:=⟨by kernel_rfl,by kernel_rfl,by kernel_rfl⟩
theorem LW:Lw p:=⟨by kernel_rfl,by kernel_rfl,by kernel_rfl,by kernel_rfl⟩
theorem hSm:p.fns "_law_same" = some KG.eK:=by kernel_rfl
theorem hNW:p.fns "_law_no_web" = some KG.fj:=by kernel_rfl
theorem hNS:p.fns "_law_no_places" = some KG.zx:=by kernel_rfl
theorem i4{w:W}{it:It}{cap:List (Option Nat)}{t:T}{elt:E}{τ c:Env}{l:List (Int×Int)}(q:Int×Int->Bool)(g:Int×Int->D)(h:evI w it τ=.ok (l.map prD))(hz:l.length<=SZ)(hc:cc cap τ=none::none::none::c)
  (hb:∀x∈l,evT w t (none::some (.int x.1)::some (.int x.2)::c)=.ok (q x)/\evE w elt (none::some (.int x.1)::some (.int x.2)::c)=.ok (g x)):evE w (.comp it cap (.tp [1,2]) t elt) τ=.ok (.lst ((l.filter q).map g)):=by
 have e:=comp2 (g:=λd=>match d with | .tup [.int a,.int b]=>(if q (a,b)then [g (a,b)]else [])|_=>[]) h (by simpa using hz) hc (t:=t) (elt:=elt) λx hx=>by
  obtain⟨y,hy,rfl⟩:=aQ.mp hx;refine⟨.int y.1,.int y.2,rfl,?_⟩;rw[(hb y hy).1];simp only[R.bind_ok];cases z:q y with
  |true=>rw[if_pos rfl,(hb y hy).2];simp[prD,pairD,z]
  |false=>simp[prD,pairD,z]
 rw[e]
 congr 2
 clear e h hz hb
 induction l with
 |nil=>rfl
 |cons x r ih=>
  rw[aY,List.flatMap_cons,ih,List.filter_cons];cases z:q x<;>simp[prD,pairD,z]
theorem pw:∀i:Fin 9,(zt (i.val:Int)).length=1/\PyData.strOk (zt (i.val:Int))=true:=by decide +kernel
theorem sC:∀i j:Fin 9,bN (i.val:Int) "-" (j.val:Int)=(zt (i.val:Int) ++ "-")++zt (j.val:Int)/\(bN (i.val:Int) "-" (j.val:Int)).length=3/\((Str.empty++zt (i.val:Int))++("-" : Str)).length=2/\(zt (i.val:Int)++("-" : Str)).length=2/\PyData.strOk (bN (i.val:Int) "-" (j.val:Int))=true:=by decide +kernel
theorem num{i:Int}(h:0<=i/\i<=8):(zt i).length=1/\PyData.strOk (zt i)=true:=by
 obtain⟨n,rfl⟩:∃n:Nat,i=n:=⟨i.toNat,by lia⟩
 exact pw ⟨n,by lia⟩
theorem tie{i j:Int}(h:0<=i/\i<=8)(h':0<=j/\j<=8):bN i "-" j=(zt i ++ "-")++zt j/\(bN i "-" j).length=3/\((Str.empty++zt i)++("-" : Str)).length=2/\(zt i++("-" : Str)).length=2/\PyData.strOk (bN i "-" j)=true:=by
 obtain⟨n,rfl⟩:∃n:Nat,i=n:=⟨i.toNat,by lia⟩
 obtain⟨m,rfl⟩:∃m:Nat,j=m:=⟨j.toNat,by lia⟩
 exact sC ⟨n,by lia⟩ ⟨m,by lia⟩
theorem jV(sep:Str)(hs:PyData.strOk sep=true):∀(l:List Str) (a:Array Nat),a.all (· < 0x110000)=true->(∀x∈l,PyData.strOk x=true)->(l.foldl (λacc p=>acc++sep.cps++p.cps) a).all (· < 0x110000)=true
 | [],a,h,_=>h
 |x::l,a,h,hl=>by
  rw[List.foldl_cons];refine jV sep hs l _ ?_ λy hy=>hl y (aL _ hy)
  have hx:=hl x aM;rw[PyData.strOk]at hs hx;rw[Array.all_append,Array.all_append,h,hs,hx];rfl
theorem kD{sep:Str}(hs:PyData.strOk sep=true){l:List Str}(hl:∀x∈l,PyData.strOk x=true):PyData.strOk (cK sep l)=true:=by
 have g:PyData.strOk (PySem.Builtin.Str.glued sep l)=true:=by
  cases l with
  |nil=>simp[PySem.Builtin.Str.glued,PyData.strOk,Str.empty]
  |cons x r=>
   have hx:=hl x aM;exact jV sep hs r x.cps hx λy hy=>hl y (aL _ hy)
 match l,g,hl with
 | [],g,_=>exact g
 | [x],_,hl=>exact hl x (by simp)
 |x::y::r,g,_=>exact g
theorem strs_map:∀ys:List Str,strs? (ys.map D.str)=some ys
 | []=>rfl
 |y::r=>by
  show (strs? (r.map D.str)).map (y :: ·)=_;rw[strs_map r];rfl
theorem gZ{sep:Str}(hs:sep.length<=16){ys:List Str}(hz:(ys.map (·.length)).sum+ys.length<=100000):dq sep (.lst (ys.map D.str))=.ok (.str (cK sep ys)):=by
 simp only[dq,cm];rw[strs_map];simp only[bP];rw[if_pos (by simp only[aB,decide_eq_true_eq];exact⟨hs,hz⟩)]
theorem jR{l:List Str}{n:Nat}(h:∀x∈l,x.length<=n):(l.map (·.length)).sum<=n * l.length:=by
 induction l with
 |nil=>simp
 |cons x r ih=>
  have a:=h x aM;have b:=ih λy hy=>h y (aL _ hy)
  rw[aY,List.sum_cons,List.length_cons,Nat.mul_succ];lia
noncomputable def tx(t:Int×Int):Str:=bN t.1 "-" t.2
noncomputable def b_(m:Int)(ts:List (Int×Int)):List Str:=zt m::ts.map tx
noncomputable def cG(m:Int)(ts:List (Int×Int)):Str:=cK " " (b_ m ts)
noncomputable def cw(s:List Int):List Str:=s.map λi=>zt i
noncomputable def bX(s:List Int):Str:=if s=[]then "none" else cK "," (cw s)
theorem l1:(ag " ").length<=16:=by decide +kernel
theorem l2:(ag ",").length<=16:=by decide +kernel
theorem o1:PyData.strOk (ag " ")=true:=by decide +kernel
theorem o2':PyData.strOk (ag ",")=true:=by decide +kernel
theorem o3:PyData.strOk (ag "none")=true:=by decide +kernel
section
variable{m:Int}{ts:List (Int×Int)}(h:GW m ts)
include h
theorem gr{t:Int×Int}(ht:t∈ts):(0<=t.1/\t.1<=8)/\(0<=t.2/\t.2<=8):=by
 have:=h.ok t ht;have:=h.hi;lia
theorem lC:((b_ m ts).map (·.length)).sum+(b_ m ts).length<=100000:=by
 have h1:=h.lo;have h2:=h.hi;have hl:=h.len;have:=jR (l:=b_ m ts) (n:=3) λx hx=>by
  rcases aI.mp hx with rfl|hx
  ·have:=(num (i:=m) (by lia)).1;lia
  ·obtain⟨t,ht,rfl⟩:=aQ.mp hx;have:=gr h ht;have:=(tie this.1 this.2).2.1;rw[tx];lia
 have e:(b_ m ts).length=ts.length+1:=by simp[b_]
 lia
theorem nk:PyData.strOk (cG m ts)=true:=by
 have h1:=h.lo;have h2:=h.hi;refine kD o1 λx hx=>?_
 rcases aI.mp hx with rfl|hx
 ·exact(num (i:=m) (by lia)).2
 ·obtain⟨t,ht,rfl⟩:=aQ.mp hx;have:=gr h ht;exact(tie this.1 this.2).2.2.2.2
end
theorem mR{m:Int}{s:List Int}(h2:m<=8)(g:GS m s):((cw s).map (·.length)).sum+(cw s).length<=100000:=by
 have:=jR (l:=cw s) (n:=1) λx hx=>by
  obtain⟨i,hi,rfl⟩:=aQ.mp hx;have:=g.ok i hi;have:=(num (i:=i) (by lia)).1;lia
 have e:(cw s).length=s.length:=by simp[cw]
 have:=g.len;lia
theorem rL{m:Int}{s:List Int}(h2:m<=8)(g:GS m s):PyData.strOk (bX s)=true:=by
 rw[bX];split
 ·exact o3
 ·refine kD o2' λx hx=>?_
  obtain⟨i,hi,rfl⟩:=aQ.mp hx;have:=g.ok i hi;exact(num (i:=i) (by lia)).2
theorem fz{i:Int}(h:0<=i/\i<=8):cP (.int i)=.ok (.str (zt i)):=by
 simp only[cP,iR];rw[if_pos (by simp[qi];lia)]
theorem shown{k:Nat}{m:Int}{ts:List (Int×Int)}(h:GW m ts):qa p (k+5) "shown" [wb m ts]=.ok (.str (cG m ts)):=by
 have h1:=h.lo;have h2:=h.hi;have hl:=h.len;have e1:=need_web B (k:=k) h;rw[qc j8];refine qz (τ:=[some (wb m ts),none,none]) rfl rfl ?_;refine zX (σ:=[some (wb m ts),none,none]) (by
  generalize wb m ts=U at *;simp[KG.Z,e1]) ?_
 refine zX (σ:=[some (wb m ts),some (.int m),some (.tup (ts.map prD))]) rfl ?_;have hc:evE ⟨qa p (k+4),p.glb,p.sub,p.cat⟩ (.comp (.seq (.var 2)) [none,none,none] (.tp [1,2]) .yes (.fsm (.var 1) "-" (.var 2))) [some (wb m ts),some (.int m),some (.tup (ts.map prD))]=.ok (.lst (((ts.filter λ_=>true).map λt=>D.str (tx t)))):=by
  refine i4 (c:=[]) (λ_=>true) (λt=>D.str (tx t)) (fb rfl) (by simp[SZ];lia) rfl λt ht=>?_
  have z:=gr h ht;have q:=tie z.1 z.2;have s1:qi t.1=true:=by simp[qi];lia
  have s2:qi t.2=true:=by simp[qi];lia
  have q1:decide (((Str.empty++zt t.1)++("-" : Str)).length<=SZ)=true:=by rw[q.2.2.1];decide
  have q2:decide ((bN t.1 "-" t.2).length<=SZ)=true:=by rw[q.2.1];decide
  refine⟨rfl,?_⟩;rw[qA,qV,qV];simp only[bE,List.getElem?_cons_succ,List.getElem?_cons_zero,R.bind_ok,iR];rw[s1,q1];simp only[Bool.and_self,if_true];rw[s2,q2]
  rfl
 rw[List.filter_eq_self.mpr (by simp)]at hc;have ha:evE ⟨qa p (k+4),p.glb,p.sub,p.cat⟩ (.lst (.cons (.stri (.var 1)) .nil)) [some (wb m ts),some (.int m),some (.tup (ts.map prD))]=.ok (.lst [.str (zt m)]):=by
  have:=fz (i:=m) (by lia);rw[qo,zj,qh];show (((cP (.int m)).bind _).bind _)=_;rw[this]
  rfl
 have hj:dq " " (.lst ((b_ m ts).map D.str))=.ok (.str (cG m ts)):=gZ l1 (lC h);have hadd:op2 .add (.lst [.str (zt m)]) (.lst (ts.map λt=>D.str (tx t)))=.ok (.lst ((b_ m ts).map D.str)):=by
  rw[op2,if_pos ⟨rfl,by simp[SZ];lia⟩,b_,aY,List.map_map];rfl
 show qe _ (.cons (.ret (.joi _ (.op .add _ _))) .nil) _=_;rw[qe,zk,qp,qU,ha,hc];simp only[R.bind_ok];rw[hadd];simp only[R.bind_ok];rw[hj];rfl
theorem wj{k:Nat}{m:Int}{ts:List (Int×Int)}(h:GW m ts):qa p (k+1) "_law_web_text" [wb m ts]=.ok (.str (cG m ts)):=by
 have h1:=h.lo;have h2:=h.hi;have hl:=h.len;rw[qc vq];refine qz (τ:=[some (wb m ts)]) rfl rfl ?_;have hc:evE ⟨qa p k,p.glb,p.sub,p.cat⟩ (.comp (.seq (.ix (.var 0) (.con (.int 1)))) [none,none,none] (.tp [1,2]) .yes (.sadd (.sadd (.stri (.var 1)) (.con (.str "-"))) (.stri (.var 2)))) [some (wb m ts)]=.ok (.lst (((ts.filter λ_=>true).map λt=>D.str (tx t)))):=by
  refine i4 (c:=[]) (λ_=>true) (λt=>D.str (tx t)) (fb rfl) (by simp[SZ];lia) rfl λt ht=>?_
  have z:=gr h ht;have q:=tie z.1 z.2;have n1:=num z.1;have n2:=num z.2;refine⟨rfl,?_⟩;have i1:cQ (.str (zt t.1)) (.str "-")=.ok (.str (zt t.1 ++ "-")):=by
   simp only[cQ,sR];rw[if_pos (by rw[n1.1];decide +kernel)]
  have i2:cQ (.str (zt t.1 ++ "-")) (.str (zt t.2))=.ok (.str (tx t)):=by
   simp only[cQ,sR];rw[if_pos (by rw[q.2.2.2.1,n2.1];decide),tx,q.1]
  rw[qu,qu,qh,qh,qX];show ((((cP (.int t.1)).bind λx=>cQ x (.str "-")).bind λx=>(cP (.int t.2)).bind λy=>cQ x y))=_;rw[fz z.1,fz z.2];simp only[R.bind_ok];rw[i1];simp only[R.bind_ok];exact i2
 rw[List.filter_eq_self.mpr (by simp)]at hc;have ha:evE ⟨qa p k,p.glb,p.sub,p.cat⟩ (.lst (.cons (.stri (.ix (.var 0) (.con (.int 0)))) .nil)) [some (wb m ts)]=.ok (.lst [.str (zt m)]):=by
  have:=fz (i:=m) (by lia);rw[qo,zj,qh];show (((cP (.int m)).bind _).bind _)=_;rw[this]
  rfl
 have hj:dq " " (.lst ((b_ m ts).map D.str))=.ok (.str (cG m ts)):=gZ l1 (lC h);have hadd:op2 .add (.lst [.str (zt m)]) (.lst (ts.map λt=>D.str (tx t)))=.ok (.lst ((b_ m ts).map D.str)):=by
  rw[op2,if_pos ⟨rfl,by simp[SZ];lia⟩,b_,aY,List.map_map];rfl
 show qe _ (.cons (.ret (.joi _ (.op .add _ _))) .nil) _=_;rw[qe,zk,qp,qU,ha,hc];simp only[R.bind_ok];rw[hadd];simp only[R.bind_ok];rw[hj];rfl
theorem lg{w:W}{e:E}{τ:Env}{m:Int}{s:List Int}(h2:m<=8)(g:GS m s)(he:evE w e τ=.ok (tu s)):evE w (.joi "," (.comp (.seq e) [none,none] (.nm 1) .yes (.stri (.var 1)))) τ=.ok (.str (cK "," (cw s))):=by
 have hc:evE w (.comp (.seq e) [none,none] (.nm 1) .yes (.stri (.var 1))) τ=.ok (.lst (s.map λi=>D.str (zt i))):=by
  refine fJ (f:=D.int) (c:=[]) (λi=>D.str (zt i)) (fb he) (by have:=g.len;simp[SZ];lia) rfl λi hi=>?_
  have:=g.ok i hi;rw[qh];exact fz (i:=i) (by lia)
 have hj:dq "," (.lst ((cw s).map D.str))=.ok (.str (cK "," (cw s))):=gZ l2 (mR h2 g);rw[cw,List.map_map]at hj;rw[qp,hc];exact hj
theorem vh{k:Nat}{m:Int}{ts:List (Int×Int)}(h:GW m ts){s:List Int}(g:GS m s):qa p (k+6) "shown_some" [wb m ts,tu s]=.ok (.str (bX s)):=by
 have e1:=need_web B (k:=k+1) h;have e2:qa p (k+5) "need_some" [wb m ts,tu s]=.ok .non:=need_some B S (k:=k) (t:=.tup (ts.map prD)) g;rw[qc iz];refine qz (τ:=[some (wb m ts),some (tu s)]) rfl rfl ?_;refine zX (σ:=[some (wb m ts),some (tu s)]) (by
  generalize wb m ts=U at *;generalize tu s=V at *;simp[KG.Z,e1]) ?_
 refine zX (σ:=[some (wb m ts),some (tu s)]) (by
  generalize wb m ts=U at *;generalize tu s=V at *;simp[KG.Z,e2]) ?_
 have hj:=lg (w:=⟨qa p (k+5),p.glb,p.sub,p.cat⟩) (e:=.var 1) (τ:=[some (wb m ts),some (tu s)]) h.hi g rfl;show qe _ (.cons (.ret (.ite (.val (.var 1)) _ (.glb "NONE"))) .nil) _=_;have eT:evT ⟨qa p (k+5),p.glb,p.sub,p.cat⟩ (.val (.var 1)) [some (wb m ts),some (tu s)]=.ok (!s.isEmpty):=by
  show truth (tu s)=_;cases s<;>rfl
 have hv:evE ⟨qa p (k+5),p.glb,p.sub,p.cat⟩ (.ite (.val (.var 1)) (.joi "," (.comp (.seq (.var 1)) [none,none] (.nm 1) .yes (.stri (.var 1)))) (.glb "NONE")) [some (wb m ts),some (tu s)]=.ok (.str (bX s)):=by
  rw[qm,eT];cases s with
  |nil=>
   simp only[R.bind_ok,List.isEmpty_nil,Bool.not_true,bJ,if_false];rw[qY];show (match p.glb "NONE" with|some d=>R.ok d|none=>R.no)=_;rw[pF];rfl
  |cons a r=>
   rw[show bX (a::r)=cK "," (cw (a::r))from if_neg (by simp)];simp only[R.bind_ok,List.isEmpty_cons,Bool.not_false,if_true];exact hj
 rw[qe,zk,hv];rfl
theorem xj{k:Nat}{m:Int}(h2:m<=8){s:List Int}(g:GS m s):qa p (k+1) "_law_some_text" [tu s]=.ok (.str (bX s)):=by
 rw[qc u9];refine qz (τ:=[some (tu s)]) rfl rfl ?_;have c1:qw .eq (tu s) (.tup [])=.ok (decide (s=[])):=o9 s [];have hj:=lg (w:=⟨qa p k,p.glb,p.sub,p.cat⟩) (e:=.var 0) (τ:=[some (tu s)]) h2 g rfl;by_cases q:s=[]
 ·rw[decide_eq_true q]at c1;rw[bX,if_pos q];generalize tu s=U at *;simp[KG.Z,ij,c1]
 ·rw[decide_eq_false q]at c1;rw[bX,if_neg q];refine zX (σ:=[some (tu s)]) (by
   generalize tu s=U at *;simp[KG.Z,c1]) ?_
  show qe _ (.cons (.ret (.joi _ _)) .nil) _=_;rw[qe,zk,hj];rfl
theorem iE{x:Str}(h:PyData.strOk x=true):qw .eq (.str x) (.str x)=.ok true:=by
 have a:(D.str x).asks=true:=by simp[D.asks,D.plain,D.deep,h]
 rw[qw,a]
 ·simp only[Bool.and_self,if_true,D.eqv];rw[show (x==x)=true from beq_self_eq_true x]
 all_goals (intros;rintro⟨⟩)
theorem same_str{k:Nat}{x:Str}(h:PyData.strOk x=true):qa p (k+1) "_law_same" [.str x,.str x]=.ok (.bl true):=by
 have z:qw .is (.str x) .non=.ok false:=rfl;have i1:∀w:W,bD w (.str x) (.ty "bool")=.ok (.bl false):=λ_=>rfl
 have i2:∀w:W,bD w (.str x) (.ty "int")=.ok (.bl false):=λ_=>rfl
 have i3:∀w:W,bD w (.str x) (.ty "str")=.ok (.bl true):=λ_=>rfl
 have e:=iE h;rw[qc hSm];refine qz rfl rfl ?_;simp[KG.Z,KG.eK,z,i1,i2,i3,e]
theorem e_{w:W}{f:Fn}{ds:List D}{c:Str}{τ:Env}(hl:ds.length=f.ps)(hτ:ds.map some++bt (f.N-f.ps) none=τ)(h:qe w f.body τ=.ex c):zP w f ds=.ex c:=by
 rw[zP,if_pos hl,hτ,h]
theorem kf{k:Nat}{d:D}(h:qa p (k+3) "is_web" [d]=.ok (.bl false)):qa p (k+4) "need_web" [d]=.ex "NoWeb":=by
 rw[qc B.need_web];refine e_ (τ:=[some d]) rfl rfl ?_;simp[KG.Z,KG.dS,h]
theorem oU{k:Nat}{u d:D}(h:qa p (k+4) "is_some" [u,d]=.ok (.bl false)):qa p (k+5) "need_some" [u,d]=.ex "NoPlaces":=by
 rw[qc S.need_some];refine e_ (τ:=[some u,some d]) rfl rfl ?_;simp[KG.Z,KG.dP,h]
theorem mH{k:Nat}{d:D}(h:qa p (k+3) "is_web" [d]=.ok (.bl false)):qa p (k+5) "shown" [d]=.ex "NoWeb":=by
 have e:=kf h;rw[qc j8];refine e_ (τ:=[some d,none,none]) rfl rfl ?_;simp[KG.Z,iA,e]
theorem mr{k:Nat}{d x:D}(h:qa p (k+3) "is_web" [d]=.ok (.bl false)):qa p (k+5) "shown_some" [d,x]=.ex "NoWeb":=by
 have e:=kf h;rw[qc iz];refine e_ (τ:=[some d,some x]) rfl rfl ?_;simp[KG.Z,fP,e]
theorem rH{k:Nat}{m:Int}{ts:List (Int×Int)}(h:GW m ts){x:D}(hx:qa p (k+4) "is_some" [wb m ts,x]=.ok (.bl false)):qa p (k+6) "shown_some" [wb m ts,x]=.ex "NoPlaces":=by
 have e1:=need_web B (k:=k+1) h;have e2:=oU hx;generalize wb m ts=U at *;rw[qc iz];refine e_ (τ:=[some U,some x]) rfl rfl ?_;simp[KG.Z,fP,e1,e2]
abbrev IT:E:=.ite (.cmp .eq (.var 0) (.con (.int 0))) (.call "shown" (.cons (.var 1) .nil)) (.call "shown_some" (.cons (.var 1) (.cons (.var 2) .nil)))
theorem it0{w:W}{b c:D}{τ:Env}:evE w IT (some (.int 0)::some b::some c::τ)=w.call "shown" [b]:=by
 have c0:qw .eq (.int 0) (.int 0)=.ok true:=rfl;simp[KG.Z,c0,qm]
theorem it1{w:W}{b c:D}{τ:Env}:evE w IT (some (.int 1)::some b::some c::τ)=w.call "shown_some" [b,c]:=by
 have c0:qw .eq (.int 1) (.int 0)=.ok false:=rfl;simp[KG.Z,c0,qm]
theorem kl{k:Nat}{a b c d:D}(h:evE (wAt p k) IT [some a,some b,some c,none]=.ok d):qa p (k+1) "_law_told" [a,b,c]=.ok d:=by
 rw[qc la];refine qz (τ:=[some a,some b,some c,none]) rfl rfl ?_;have e:qe (wAt p k) (.cons (.ret IT) .nil) [some a,some b,some c,none]=.rt d:=by
  rw[qe,zk,h];rfl
 show qe (wAt p k) (.cons (.try (.cons (.ret IT) .nil) "PlaceError" (some 3) _) _) _=_;rw[qe,zB,e]
theorem hV{k:Nat}{a b c:D}{X:Str}{r:Int}(hk:qa p k "_law_kinds" [.exn X]=.ok (.int r))(hc:p.cat X "PlaceError" = true)(h:evE (wAt p k) IT [some a,some b,some c,none]=.ex X):qa p (k+1) "_law_told" [a,b,c]=.ok (.int r):=by
 rw[qc la];refine qz (τ:=[some a,some b,some c,none]) rfl rfl ?_;have e:qe (wAt p k) (.cons (.ret IT) .nil) [some a,some b,some c,none]=.ex X:=by
  rw[qe,zk,h];rfl
 show qe (wAt p k) (.cons (.try (.cons (.ret IT) .nil) "PlaceError" (some 3) (.cons (.ret (.call "_law_kinds" (.cons (.var 3) .nil))) .nil)) .nil) _=_;rw[qe,zB,e];have hc':(wAt p k).cat X "PlaceError" = true:=hc;dsimp only;rw[if_pos hc'];have e2:evE (wAt p k) (.call "_law_kinds" (.cons (.var 3) .nil)) (bQ [some a,some b,some c,none] (some 3) X)=.ok (.int r):=by
  have q:zj (wAt p k) (.cons (.var 3) .nil) (bQ [some a,some b,some c,none] (some 3) X)=.ok [.exn X]:=rfl;rw[qs,q];exact hk
 have e3:qe (wAt p k) (.cons (.ret (.call "_law_kinds" (.cons (.var 3) .nil))) .nil) (bQ [some a,some b,some c,none] (some 3) X)=.rt (.int r):=by
  rw[qe,zk,e2];rfl
 rw[e3];rfl
theorem kw:∀k:Nat,qa p (k+1) "_law_kinds" [.exn "NoWeb"]=.ok (.int 0):=λk=>by rw[qc jr];kernel_rfl
theorem ks:∀k:Nat,qa p (k+1) "_law_kinds" [.exn "NoPlaces"]=.ok (.int 1):=λk=>by rw[qc jr];kernel_rfl
theorem c1:p.cat "NoWeb" "PlaceError" = true:=by kernel_rfl
theorem c2:p.cat "NoPlaces" "PlaceError" = true:=by kernel_rfl
structure Hyp(F:Str->List D->R D):Prop where
 hwb:∀m c:Int,1<=m->m<=8->∃ts,GW m ts/\F "_law_web_by" [.int m,.int c]=.ok (wb m ts)
 hst:∀c j:Int,F "_law_stir" [.int c,.int j]=.ok (.int (st c j))
 hsb:∀m c:Int,1<=m->m<=8->∃s,GS m s/\F "_law_some_by" [.int m,.int c]=.ok (tu s)
 ht0:∀m ts,GW m ts->F "_law_told" [.int 0,wb m ts,.non]=.ok (.str (cG m ts))
 hwt:∀m ts,GW m ts->F "_law_web_text" [wb m ts]=.ok (.str (cG m ts))
 hsm:∀x,PyData.strOk x=true->F "_law_same" [.str x,.str x]=.ok (.bl true)
 ht1:∀m ts s,GW m ts->GS m s->F "_law_told" [.int 1,wb m ts,tu s]=.ok (.str (bX s))
 hs1:∀m s,m<=8->GS m s->F "_law_some_text" [tu s]=.ok (.str (bX s))
 hno:∀m ts n,GW m ts->∃d,F "_law_no_places" [.int m,.tup [],.int n]=.ok d/\F "_law_told" [.int 1,wb m ts,d]=.ok (.int 1)
 hnw:∀m ts n,GW m ts->∃d,F "_law_no_web" [wb m ts,.int n]=.ok d/\F "_law_told" [.int 0,d,.non]=.ok (.int 0)/\∀x,F "_law_told" [.int 1,d,x]=.ok (.int 0)
theorem e1:cG 3 [(0,1),(1,2)]=ag "3 0-1 1-2":=by decide +kernel
theorem e2:bX [0,2]=ag "0,2":=by decide +kernel
theorem okA:PyData.strOk (ag "3 0-1 1-2")=true:=by decide +kernel
theorem okB:PyData.strOk (ag "0,2")=true:=by decide +kernel
abbrev LS(LL:List D)(v1 v2 v3 v4 v5 v6:Option D):Env:=[some (.lst LL),v1,v2,v3,v4,v5,v6]
theorem nG{w:W}(ns:List Int)(hn:ns.length<=63)(H:Hyp w.call):Ends (λ_=>False) (λd=>d=.bl true) (qe w eP.body (LS (ns.map D.int) none none none none none none)):=by
 obtain⟨cs,hcs,hcl⟩:=vN ns none (some 8);generalize hLL:ns.map D.int=LL at *;refine kT (ds:=(cs++[0,3]).map D.int) (λr σ=>∃(ms:List Int) (v1 v2 v3 v4 v5 v6:Option D),r=ms.map D.int/\σ=LS LL v1 v2 v3 v4 v5 v6) ?_ ⟨_,none,none,none,none,none,none,rfl,rfl⟩ ?_ ?_
 ·have e:op2 .add (.lst (cs.map D.int)) (.lst [.int 0,.int 3])=.ok (.lst ((cs++[0,3]).map D.int)):=by
   rw[op2,if_pos (by simp[SZ];lia)];simp
  simp[KG.Z,slD,hcs,e,seq?]
 ·rintro y t σ ⟨ms,v1,v2,v3,v4,v5,v6,e,rfl⟩;obtain⟨c,ms,rfl,rfl,rfl⟩:=fx e;refine⟨LS LL (some (.int c)) v2 v3 v4 v5 v6,rfl,?_⟩;have m1:1<=1+c/64%8:=by lia
  have m2:1+c/64%8<=8:=by lia
  refine dC (σ:=LS LL (some (.int c)) (some (.int (1+c/64%8))) v3 v4 v5 v6) (by simp[KG.Z,op2]) ?_;generalize 1+c/64%8=m at *;obtain⟨ts,g,hw⟩:=H.hwb m (c/512) m1 m2;obtain⟨s,gs,hs⟩:=H.hsb m (st c 1) m1 m2;obtain⟨bd,hb1,hb2⟩:=H.hno m ts (st c 2) g;obtain⟨nw,hn1,hn2,hn3⟩:=H.hnw m ts (st c 3) g;have hn3:=hn3 bd;have hst1:=H.hst c 1;have hst2:=H.hst c 2;have hst3:=H.hst c 3;refine dC (σ:=LS LL (some (.int c)) (some (.int m)) (some (wb m ts)) v4 v5 v6) (by
   dsimp only[LS];have o:op2 .fdiv (.int c) (.int 512)=.ok (.int (c/512)):=rfl;generalize c/512=C at *;generalize wb m ts=U at *;simp[KG.Z,o,hw]) ?_
  have t0:=H.ht0 m ts g;have wt:=H.hwt m ts g;have sm:=H.hsm (cG m ts) (nk g);refine dC (σ:=LS LL (some (.int c)) (some (.int m)) (some (wb m ts)) v4 v5 v6) (by
   dsimp only[LS];generalize wb m ts=U at *;generalize cG m ts=V at *;simp[KG.Z,t0,wt,sm]) ?_
  have hm:qi m=true:=by simp[qi];lia
  have ht1:=λs gs=>H.ht1 m ts s g gs
  have hs1:=λs gs=>H.hs1 m s m2 gs
  refine kT (ds:=[s,[],rng m].map tu) (λr σ=>∃(L:List (List Int)) (v4:Option D),r=L.map tu/\(∀s∈L,GS m s)/\σ=LS LL (some (.int c)) (some (.int m)) (some (wb m ts)) v4 v5 v6) ?_ ⟨_,v4,rfl,?_,rfl⟩ ?_ ?_
  ·have hr:D.tup (zo 0 m.toNat)=tu (rng m):=by rw[dD]
   show _=R.ok [tu s,.tup [],tu (rng m)];rw[<-hr];dsimp only[LS];generalize wb m ts=U at *;generalize tu s=V at *;generalize st c 1=T1 at *;simp[KG.Z,hst1,hs,hm,seq?]
  ·intro x hx;simp only[aI,bc,or_false]at hx;rcases hx with rfl|rfl|rfl
   ·exact gs
   ·exact GS.none
   ·exact GS.all m1 m2
  ·rintro y t σ ⟨L,v4,e,hL,rfl⟩;obtain⟨x,L,rfl,rfl,rfl⟩:=fx e;have gx:=hL x aM;refine⟨LS LL (some (.int c)) (some (.int m)) (some (wb m ts)) (some (tu x)) v5 v6,rfl,?_⟩;refine dC (σ:=LS LL (some (.int c)) (some (.int m)) (some (wb m ts)) (some (tu x)) v5 v6) ?_ (km ⟨L,_,rfl,λz hz=>hL z (aL _ hz),rfl⟩);have a1:=ht1 x gx;have a2:=hs1 x gx;have a3:=H.hsm (bX x) (rL m2 gx);dsimp only[LS];generalize wb m ts=U at *;generalize tu x=V at *;generalize bX x=Z at *;simp[KG.Z,a1,a2,a3]
  ·rintro σ ⟨L,v4,e,hL,rfl⟩;clear ht1 hs1 t0 wt sm hw;refine dC (σ:=LS LL (some (.int c)) (some (.int m)) (some (wb m ts)) v4 (some bd) v6) (by
    dsimp only[LS];generalize wb m ts=U at *;generalize st c 2=T2 at *;simp[KG.Z,hst2,hb1]) ?_
   refine dC (σ:=LS LL (some (.int c)) (some (.int m)) (some (wb m ts)) v4 (some bd) (some nw)) (by
    dsimp only[LS];generalize wb m ts=U at *;generalize st c 3=T3 at *;simp[KG.Z,hst3,hn1]) ?_
   have n1:qw .ne (.int 1) (.int 1)=.ok false:=rfl;have n0:qw .ne (.int 0) (.int 0)=.ok false:=rfl;refine dC (σ:=LS LL (some (.int c)) (some (.int m)) (some (wb m ts)) v4 (some bd) (some nw)) (by
    dsimp only[LS];generalize wb m ts=U at *;simp[KG.Z,hb2,hn2,hn3,n1,n0]) (km ⟨ms,_,_,_,_,_,_,rfl,rfl⟩)
 ·rintro σ ⟨ms,v1,v2,v3,v4,v5,v6,e,rfl⟩;have r1:w.call "_law_told" [.int 0,.tup [.int 3,.tup [.tup [.int 0,.int 1],.tup [.int 1,.int 2]]],.non]=.ok (.str (ag "3 0-1 1-2")):=by
   have:=H.ht0 3 [(0,1),(1,2)] (by decide +kernel);rw[e1]at this;exact this
  have r2:w.call "_law_told" [.int 1,.tup [.int 3,.tup []],.tup [.int 0,.int 2]]=.ok (.str (ag "0,2")):=by
   have:=H.ht1 3 [] [0,2] (by decide +kernel) ⟨by decide,by decide,by decide⟩;rw[e2]at this;exact this
  have q1:=iE okA;have q2:=iE okB;exact wq (d:=.bl true) (by simp[KG.Z,r1,r2,q1,q2]) rfl
theorem mG{F:Str->List D->R D}(ns:List Int)(hn:ns.length<=63)(H:Hyp F):zP ⟨F,p.glb,p.sub,p.cat⟩ eP [.lst (ns.map D.int)]=.ok (.bl true):=by
 obtain⟨d,e,rfl⟩:=rN (w:=⟨F,p.glb,p.sub,p.cat⟩) (f:=eP) (ds:=[.lst (ns.map D.int)]) rfl rfl (nG (w:=⟨F,p.glb,p.sub,p.cat⟩) ns hn H);exact e
noncomputable def depth:Nat:=8
theorem wm:∀ns:List Int,ns.length<=63->qa p depth "law" [.lst (ns.map D.int)]=.ok (.bl true):=by
 intro ns hn;rw[show depth=7+1 from rfl,qc tM];refine mG ns hn ⟨λm c h1 h2=>xw LW (k:=5) m c h1 h2,λc j=>gp LW._law_stir (k:=6) c j,λm c h1 h2=>wz LW (k:=5) m c h1 h2,λm ts g=>kl (it0.trans (shown (k:=1) g)),λm ts g=>wj (k:=6) g,λx h=>same_str (k:=6) h,λm ts s g gs=>kl (it1.trans (vh (k:=0) g gs)),λm s h2 gs=>xj (k:=6) h2 gs,λm ts n g=>?_,λm ts n g=>?_⟩
 ·obtain⟨d,d1,d2⟩:=vv B S hNS (k:=6) ⟨g.lo,g.hi⟩ (.tup (ts.map prD)) (s:=[]) GS.none n;exact⟨d,d1,hV (ks 5) c2 (it1.trans (rH (k:=0) g (d2 0)))⟩
 ·obtain⟨d,d1,d2⟩:=si B hNW (k:=6) g n;exact⟨d,d1,hV (kw 5) c1 (it0.trans (mH (k:=1) (d2 1))),λx=>hV (kw 5) c1 (it1.trans (mr (k:=1) (d2 1)))⟩
end K90
namespace K90
open PySem PySem.Spec PyProof.Rows L2 EV
theorem kO:∀e∈tab,cFn G (dJ us oth) e.own e.fr e.st=some e.fn:=by
 intro e he;simp only[tab,aI,bc,or_false]at he;rcases he with rfl|rfl|rfl|rfl|rfl|rfl|rfl|rfl|rfl|rfl|rfl|rfl|rfl|rfl|rfl|rfl|rfl|rfl|rfl|rfl|rfl|rfl|rfl|rfl<;>kernel_rfl
theorem vG:∀e∈us,e∈tab:=by
 intro e he;simp only[us,aI,bc,or_false]at he;rcases he with rfl
 ·simp[tab]
theorem uu:∀e∈us,eF (cR oth) e.own e.fr e.st=some e.fn:=by
 intro e he;simp only[us,aI,bc,or_false]at he;rcases he with rfl<;>kernel_rfl
theorem nd:(tab.map (·.x)).Nodup:=by decide +kernel
section
variable{K:aq}{h:Heap}{mg:Str->Option ae}{f0:Addr}(d0:WB.Dd K "is_whole" (top 17) f0){f1:Addr}(d1:WB.Dd K "is_between" (top 18) f1){f2:Addr}(d2:WB.Dd K "is_pair" (top 19) f2){f3:Addr}(d3:WB.Dd K "rises" (top 20) f3){f4:Addr}(d4:WB.Dd K "is_web" (top 23) f4){f5:Addr}(d5:WB.Dd K "is_tie" (top 24) f5){f6:Addr}(d6:WB.Dd K "need_web" (top 25) f6){f7:Addr}(d7:WB.Dd K "is_place" (top 26) f7){f8:Addr}(d8:WB.Dd K "is_some" (top 28) f8){f9:Addr}(d9:WB.Dd K "need_some" (top 29) f9){f10:Addr}(d10:WB.Dd K "shown" (top 32) f10){f11:Addr}(d11:WB.Dd K "shown_some" (top 33) f11){f12:Addr}(d12:WB.Dd K "_law_kinds" (top 35) f12){f13:Addr}(d13:WB.Dd K "_law_pairs" (top 36) f13){f14:Addr}(d14:WB.Dd K "_law_stir" (top 37) f14){f15:Addr}(d15:WB.Dd K "_law_web_by" (top 38) f15){f16:Addr}(d16:WB.Dd K "_law_same" (top 39) f16){f17:Addr}(d17:WB.Dd K "_law_web_text" (top 40) f17){f18:Addr}(d18:WB.Dd K "_law_some_by" (top 41) f18){f19:Addr}(d19:WB.Dd K "_law_some_text" (top 42) f19){f20:Addr}(d20:WB.Dd K "_law_no_places" (top 43) f20){f21:Addr}(d21:WB.Dd K "_law_no_web" (top 44) f21){f22:Addr}(d22:WB.Dd K "_law_told" (top 45) f22){f23:Addr}(d23:WB.Dd K "law" (top 46) f23)
include d0 d1 d2 d3 d4 d5 d6 d7 d8 d9 d10 d11 d12 d13 d14 d15 d16 d17 d18 d19 d20 d21 d22 d23
theorem mL:∀e∈tab,eS K G e:=by
 intro e he;simp only[tab,aI,bc,or_false]at he;rcases he with rfl|rfl|rfl|rfl|rfl|rfl|rfl|rfl|rfl|rfl|rfl|rfl|rfl|rfl|rfl|rfl|rfl|rfl|rfl|rfl|rfl|rfl|rfl|rfl<;>refine⟨⟨_,by assumption⟩,λ_ _ _ _ _ _ us hl=>?_⟩<;>first|(obtain⟨_,rfl⟩:=WB.kR hl;rfl)|(obtain⟨_,_,rfl⟩:=WB.jj hl;rfl)|(obtain⟨_,_,_,rfl⟩:=WB.nQ hl;rfl)
omit d0 d1 d2 d3 d4 d5 d6 d7 d8 d9 d10 d11 d12 d13 d14 d15 d16 d17 d18 d19 d20 d21 d22 d23
theorem gL{x:Str}{k:GK}(h:oth.lookup x=some k):∃y∈oth,x=y.1/\k=y.2:=by
 generalize oth=l at h ⊢
 induction l with
 |nil=>cases h
 |cons a r ih=>
  rw[aV]at h;split at h
  ·rename_i q;cases h;exact⟨a,aM,eq_of_beq q,rfl⟩
  ·obtain⟨y,h1,h2⟩:=ih h;exact⟨y,aL _ h1,h2⟩
theorem uE{K:aq}{C0:Addr}(k0:ai K ah "PlaceError" = some (some (.ref C0))){C1:Addr}(k1:ai K ah "NoWeb" = some (some (.ref C1)))(x1:PySem.W.excIn K C1 er "ValueError.__new__" = true){C2:Addr}(k2:ai K ah "NoPlaces" = some (some (.ref C2)))(x2:PySem.W.excIn K C2 er "ValueError.__new__" = true){C3:Addr}(k3:ai K ah "NoPlace" = some (some (.ref C3))){C4:Addr}(k4:ai K ah "NoNumber" = some (some (.ref C4))){C5:Addr}(k5:ai K ah "NotAll" = some (some (.ref C5))){C6:Addr}(k6:ai K ah "NotUntied" = some (some (.ref C6))){C7:Addr}(k7:ai K ah "NoShares" = some (some (.ref C7))){C8:Addr}(k8:ai K ah "NotTree" = some (some (.ref C8))){C9:Addr}(k9:ai K ah "NotTold" = some (some (.ref C9))){C10:Addr}(k10:ai K ah "NoCrowds" = some (some (.ref C10))){C11:Addr}(k11:ai K ah "NoText" = some (some (.ref C11))){C12:Addr}(k12:ai K ah "NoLine" = some (some (.ref C12))){C13:Addr}(k13:ai K ah "NoDeed" = some (some (.ref C13))){C14:Addr}(k14:ai K ah "TooGreat" = some (some (.ref C14))){tk0:Tok}(u0:ai K ah "MOST" = some (some (.int 8 tk0))){tk1:Tok}(u1:ai K ah "NONE" = some (some (.str (ag "none") tk1)))(z0:ai K ah "len" = some none)(z1:ai K ah "tuple" = some none)(z2:ai K ah "list" = some none)(z3:ai K ah "int" = some none)(z4:ai K ah "bool" = some none)(z5:ai K ah "str" = some none)(z6:ai K ah "all" = some none)(z7:ai K ah "range" = some none)(z8:ai K ah "enumerate" = some none)(z9:ai K ah "zip" = some none)(z10:ai K ah "isinstance" = some none)(z11:ai K ah "ValueError" = some none):∀x k,oth.lookup x=some k->lU K vals x k:=by
 intro x k h;obtain⟨y,h1,rfl,rfl⟩:=gL h;simp only[oth,aI,bc,or_false]at h1;rcases h1 with rfl|rfl|rfl|rfl|rfl|rfl|rfl|rfl|rfl|rfl|rfl|rfl|rfl|rfl|rfl|rfl|rfl|rfl|rfl|rfl|rfl|rfl|rfl|rfl|rfl|rfl|rfl|rfl|rfl
 ·exact⟨_,k0⟩
 ·exact⟨_,k1,x1⟩
 ·exact⟨_,k2,x2⟩
 ·exact⟨_,k3⟩
 ·exact⟨_,k4⟩
 ·exact⟨_,k5⟩
 ·exact⟨_,k6⟩
 ·exact⟨_,k7⟩
 ·exact⟨_,k8⟩
 ·exact⟨_,k9⟩
 ·exact⟨_,k10⟩
 ·exact⟨_,k11⟩
 ·exact⟨_,k12⟩
 ·exact⟨_,k13⟩
 ·exact⟨_,k14⟩
 ·exact⟨_,.int 8,.int 8,u0,⟨_,rfl⟩,rfl,λg H _=>.int _⟩
 ·exact⟨_,.str (ag "none"),.str (ag "none"),u1,⟨_,rfl⟩,rfl,λg H _=>.str _⟩
 ·exact⟨z0,rfl,_,rfl⟩
 ·exact⟨z1,by decide +kernel,by simp,by simp[b1N,b1V]⟩
 ·exact⟨z2,by decide +kernel,by simp,by simp[b1N,b1V]⟩
 ·exact⟨z3,by decide +kernel,by simp,by simp[b1N,b1V]⟩
 ·exact⟨z4,by decide +kernel,by simp,by simp[b1N,b1V]⟩
 ·exact⟨z5,by decide +kernel,by simp,by simp⟩
 ·exact⟨z6,rfl,_,rfl⟩
 ·exact⟨z7,rfl⟩
 ·exact⟨z8,rfl⟩
 ·exact⟨z9,rfl⟩
 ·exact⟨z10,rfl⟩
 ·exact⟨z11,by decide +kernel,by simp,by simp⟩
theorem xc:∀x fr,oth.lookup x≠some (.fn fr):=by
 intro x fr h;obtain⟨y,h1,rfl,h2⟩:=gL h;simp only[oth,aI,bc,or_false]at h1;rcases h1 with rfl|rfl|rfl|rfl|rfl|rfl|rfl|rfl|rfl|rfl|rfl|rfl|rfl|rfl|rfl|rfl|rfl|rfl|rfl|rfl|rfl|rfl|rfl|rfl|rfl|rfl|rfl|rfl|rfl<;>cases h2
theorem w9:∀x,(oth.lookup x=some .exc\/oth.lookup x=some .exk)->([ag "PlaceError",ag "NoWeb",ag "NoPlaces",ag "NoPlace",ag "NoNumber",ag "NotAll",ag "NotUntied",ag "NoShares",ag "NotTree",ag "NotTold",ag "NoCrowds",ag "NoText",ag "NoLine",ag "NoDeed",ag "TooGreat"]:List Str).contains x=true:=by
 intro x h;rcases h with h|h<;>obtain⟨y,h1,rfl,h2⟩:=gL h<;>simp only[oth,aI,bc,or_false]at h1<;>rcases h1 with rfl|rfl|rfl|rfl|rfl|rfl|rfl|rfl|rfl|rfl|rfl|rfl|rfl|rfl|rfl|rfl|rfl|rfl|rfl|rfl|rfl|rfl|rfl|rfl|rfl|rfl|rfl|rfl|rfl<;>first|(cases h2;done)|decide +kernel
theorem tK{K:aq}{C0:Addr}(k0:ai K ah "PlaceError" = some (some (.ref C0))){C1:Addr}(k1:ai K ah "NoWeb" = some (some (.ref C1))){C2:Addr}(k2:ai K ah "NoPlaces" = some (some (.ref C2))){C3:Addr}(k3:ai K ah "NoPlace" = some (some (.ref C3))){C4:Addr}(k4:ai K ah "NoNumber" = some (some (.ref C4))){C5:Addr}(k5:ai K ah "NotAll" = some (some (.ref C5))){C6:Addr}(k6:ai K ah "NotUntied" = some (some (.ref C6))){C7:Addr}(k7:ai K ah "NoShares" = some (some (.ref C7))){C8:Addr}(k8:ai K ah "NotTree" = some (some (.ref C8))){C9:Addr}(k9:ai K ah "NotTold" = some (some (.ref C9))){C10:Addr}(k10:ai K ah "NoCrowds" = some (some (.ref C10))){C11:Addr}(k11:ai K ah "NoText" = some (some (.ref C11))){C12:Addr}(k12:ai K ah "NoLine" = some (some (.ref C12))){C13:Addr}(k13:ai K ah "NoDeed" = some (some (.ref C13))){C14:Addr}(k14:ai K ah "TooGreat" = some (some (.ref C14)))(w0:bj K (.ref C1) (.ref C0)=some true)(w1:bj K (.ref C2) (.ref C0)=some true):∀y∈bO,∃C D,ai K ah y.1=some (some (.ref C))/\ai K ah y.2=some (some (.ref D))/\bj K (.ref C) (.ref D)=some true:=by
 intro y h1;simp only[bO,aI,bc,or_false]at h1;rcases h1 with rfl|rfl
 ·exact⟨_,_,k1,k0,w0⟩
 ·exact⟨_,_,k2,k0,w1⟩
theorem sL{K:aq}{C0:Addr}(k0:ai K ah "PlaceError" = some (some (.ref C0))){C1:Addr}(k1:ai K ah "NoWeb" = some (some (.ref C1))){C2:Addr}(k2:ai K ah "NoPlaces" = some (some (.ref C2))){C3:Addr}(k3:ai K ah "NoPlace" = some (some (.ref C3))){C4:Addr}(k4:ai K ah "NoNumber" = some (some (.ref C4))){C5:Addr}(k5:ai K ah "NotAll" = some (some (.ref C5))){C6:Addr}(k6:ai K ah "NotUntied" = some (some (.ref C6))){C7:Addr}(k7:ai K ah "NoShares" = some (some (.ref C7))){C8:Addr}(k8:ai K ah "NotTree" = some (some (.ref C8))){C9:Addr}(k9:ai K ah "NotTold" = some (some (.ref C9))){C10:Addr}(k10:ai K ah "NoCrowds" = some (some (.ref C10))){C11:Addr}(k11:ai K ah "NoText" = some (some (.ref C11))){C12:Addr}(k12:ai K ah "NoLine" = some (some (.ref C12))){C13:Addr}(k13:ai K ah "NoDeed" = some (some (.ref C13))){C14:Addr}(k14:ai K ah "TooGreat" = some (some (.ref C14)))(y0:zD K C1)(v0:ax K (.ref C1) (.type "ValueError")=some true)(y1:zD K C2)(v1:ax K (.ref C2) (.type "ValueError")=some true)(t0:WB.Dk K "NoWeb" C1)(t1:WB.Dk K "NoPlaces" C2)(t2:WB.Dk K "NoPlace" C3)(t3:WB.Dk K "NoNumber" C4)(t4:WB.Dk K "NotUntied" C6)(t5:WB.Dk K "NoShares" C7)(t6:WB.Dk K "NotTree" C8)(t7:WB.Dk K "NotTold" C9)(t8:WB.Dk K "NoCrowds" C10)(t9:WB.Dk K "NoText" C11)(t10:WB.Dk K "NoLine" C12)(t11:WB.Dk K "NoDeed" C13)(t12:WB.Dk K "NotAll" C5)(t13:WB.Dk K "TooGreat" C14)(q0_1:ax K (.ref C1) (.ref C2)=some false)(n0_1:C1≠C2)(q0_2:ax K (.ref C1) (.ref C3)=some false)(n0_2:C1≠C3)(q0_3:ax K (.ref C1) (.ref C4)=some false)(n0_3:C1≠C4)(q0_4:ax K (.ref C1) (.ref C6)=some false)(n0_4:C1≠C6)(q0_5:ax K (.ref C1) (.ref C7)=some false)(n0_5:C1≠C7)(q0_6:ax K (.ref C1) (.ref C8)=some false)(n0_6:C1≠C8)(q0_7:ax K (.ref C1) (.ref C9)=some false)(n0_7:C1≠C9)(q0_8:ax K (.ref C1) (.ref C10)=some false)(n0_8:C1≠C10)(q0_9:ax K (.ref C1) (.ref C11)=some false)(n0_9:C1≠C11)(q0_10:ax K (.ref C1) (.ref C12)=some false)(n0_10:C1≠C12)(q0_11:ax K (.ref C1) (.ref C13)=some false)(n0_11:C1≠C13)(q0_12:ax K (.ref C1) (.ref C5)=some false)(n0_12:C1≠C5)(q0_13:ax K (.ref C1) (.ref C14)=some false)(n0_13:C1≠C14)(q1_0:ax K (.ref C2) (.ref C1)=some false)(n1_0:C2≠C1)(q1_2:ax K (.ref C2) (.ref C3)=some false)(n1_2:C2≠C3)(q1_3:ax K (.ref C2) (.ref C4)=some false)(n1_3:C2≠C4)(q1_4:ax K (.ref C2) (.ref C6)=some false)(n1_4:C2≠C6)(q1_5:ax K (.ref C2) (.ref C7)=some false)(n1_5:C2≠C7)(q1_6:ax K (.ref C2) (.ref C8)=some false)(n1_6:C2≠C8)(q1_7:ax K (.ref C2) (.ref C9)=some false)(n1_7:C2≠C9)(q1_8:ax K (.ref C2) (.ref C10)=some false)(n1_8:C2≠C10)(q1_9:ax K (.ref C2) (.ref C11)=some false)(n1_9:C2≠C11)(q1_10:ax K (.ref C2) (.ref C12)=some false)(n1_10:C2≠C12)(q1_11:ax K (.ref C2) (.ref C13)=some false)(n1_11:C2≠C13)(q1_12:ax K (.ref C2) (.ref C5)=some false)(n1_12:C2≠C5)(q1_13:ax K (.ref C2) (.ref C14)=some false)(n1_13:C2≠C14):∀y∈subs,lN K [ag "PlaceError",ag "NoWeb",ag "NoPlaces",ag "NoPlace",ag "NoNumber",ag "NotAll",ag "NotUntied",ag "NoShares",ag "NotTree",ag "NotTold",ag "NoCrowds",ag "NoText",ag "NoLine",ag "NoDeed",ag "TooGreat"] y:=by
 intro y h1;simp only[subs,aI,bc,or_false]at h1;rcases h1 with rfl|rfl|rfl|rfl|rfl|rfl|rfl|rfl|rfl|rfl|rfl|rfl|rfl|rfl|rfl|rfl|rfl|rfl|rfl|rfl|rfl|rfl|rfl|rfl|rfl|rfl|rfl|rfl|rfl|rfl
 ·exact⟨_,_,by decide +kernel,k1,y0,WB.jy v0,rfl,rfl⟩
 ·exact⟨_,_,by decide +kernel,k1,y0,WB.jx,_,by decide +kernel,k1,rfl⟩
 ·exact⟨_,_,by decide +kernel,k1,y0,t1.kit q0_1 n0_1,_,by decide +kernel,k2,rfl⟩
 ·exact⟨_,_,by decide +kernel,k1,y0,t2.kit q0_2 n0_2,_,by decide +kernel,k3,rfl⟩
 ·exact⟨_,_,by decide +kernel,k1,y0,t3.kit q0_3 n0_3,_,by decide +kernel,k4,rfl⟩
 ·exact⟨_,_,by decide +kernel,k1,y0,t4.kit q0_4 n0_4,_,by decide +kernel,k6,rfl⟩
 ·exact⟨_,_,by decide +kernel,k1,y0,t5.kit q0_5 n0_5,_,by decide +kernel,k7,rfl⟩
 ·exact⟨_,_,by decide +kernel,k1,y0,t6.kit q0_6 n0_6,_,by decide +kernel,k8,rfl⟩
 ·exact⟨_,_,by decide +kernel,k1,y0,t7.kit q0_7 n0_7,_,by decide +kernel,k9,rfl⟩
 ·exact⟨_,_,by decide +kernel,k1,y0,t8.kit q0_8 n0_8,_,by decide +kernel,k10,rfl⟩
 ·exact⟨_,_,by decide +kernel,k1,y0,t9.kit q0_9 n0_9,_,by decide +kernel,k11,rfl⟩
 ·exact⟨_,_,by decide +kernel,k1,y0,t10.kit q0_10 n0_10,_,by decide +kernel,k12,rfl⟩
 ·exact⟨_,_,by decide +kernel,k1,y0,t11.kit q0_11 n0_11,_,by decide +kernel,k13,rfl⟩
 ·exact⟨_,_,by decide +kernel,k1,y0,t12.kit q0_12 n0_12,_,by decide +kernel,k5,rfl⟩
 ·exact⟨_,_,by decide +kernel,k1,y0,t13.kit q0_13 n0_13,_,by decide +kernel,k14,rfl⟩
 ·exact⟨_,_,by decide +kernel,k2,y1,WB.jy v1,rfl,rfl⟩
 ·exact⟨_,_,by decide +kernel,k2,y1,t0.kit q1_0 n1_0,_,by decide +kernel,k1,rfl⟩
 ·exact⟨_,_,by decide +kernel,k2,y1,WB.jx,_,by decide +kernel,k2,rfl⟩
 ·exact⟨_,_,by decide +kernel,k2,y1,t2.kit q1_2 n1_2,_,by decide +kernel,k3,rfl⟩
 ·exact⟨_,_,by decide +kernel,k2,y1,t3.kit q1_3 n1_3,_,by decide +kernel,k4,rfl⟩
 ·exact⟨_,_,by decide +kernel,k2,y1,t4.kit q1_4 n1_4,_,by decide +kernel,k6,rfl⟩
 ·exact⟨_,_,by decide +kernel,k2,y1,t5.kit q1_5 n1_5,_,by decide +kernel,k7,rfl⟩
 ·exact⟨_,_,by decide +kernel,k2,y1,t6.kit q1_6 n1_6,_,by decide +kernel,k8,rfl⟩
 ·exact⟨_,_,by decide +kernel,k2,y1,t7.kit q1_7 n1_7,_,by decide +kernel,k9,rfl⟩
 ·exact⟨_,_,by decide +kernel,k2,y1,t8.kit q1_8 n1_8,_,by decide +kernel,k10,rfl⟩
 ·exact⟨_,_,by decide +kernel,k2,y1,t9.kit q1_9 n1_9,_,by decide +kernel,k11,rfl⟩
 ·exact⟨_,_,by decide +kernel,k2,y1,t10.kit q1_10 n1_10,_,by decide +kernel,k12,rfl⟩
 ·exact⟨_,_,by decide +kernel,k2,y1,t11.kit q1_11 n1_11,_,by decide +kernel,k13,rfl⟩
 ·exact⟨_,_,by decide +kernel,k2,y1,t12.kit q1_12 n1_12,_,by decide +kernel,k5,rfl⟩
 ·exact⟨_,_,by decide +kernel,k2,y1,t13.kit q1_13 n1_13,_,by decide +kernel,k14,rfl⟩
include d0 d1 d2 d3 d4 d5 d6 d7 d8 d9 d10 d11 d12 d13 d14 d15 d16 d17 d18 d19 d20 d21 d22 d23
theorem all_mk(X:K.In h)(N:h.Ns ah mg){C0:Addr}(k0:ai K ah "PlaceError" = some (some (.ref C0))){C1:Addr}(k1:ai K ah "NoWeb" = some (some (.ref C1)))(x1:PySem.W.excIn K C1 er "ValueError.__new__" = true){C2:Addr}(k2:ai K ah "NoPlaces" = some (some (.ref C2)))(x2:PySem.W.excIn K C2 er "ValueError.__new__" = true){C3:Addr}(k3:ai K ah "NoPlace" = some (some (.ref C3))){C4:Addr}(k4:ai K ah "NoNumber" = some (some (.ref C4))){C5:Addr}(k5:ai K ah "NotAll" = some (some (.ref C5))){C6:Addr}(k6:ai K ah "NotUntied" = some (some (.ref C6))){C7:Addr}(k7:ai K ah "NoShares" = some (some (.ref C7))){C8:Addr}(k8:ai K ah "NotTree" = some (some (.ref C8))){C9:Addr}(k9:ai K ah "NotTold" = some (some (.ref C9))){C10:Addr}(k10:ai K ah "NoCrowds" = some (some (.ref C10))){C11:Addr}(k11:ai K ah "NoText" = some (some (.ref C11))){C12:Addr}(k12:ai K ah "NoLine" = some (some (.ref C12))){C13:Addr}(k13:ai K ah "NoDeed" = some (some (.ref C13))){C14:Addr}(k14:ai K ah "TooGreat" = some (some (.ref C14))){tk0:Tok}(u0:ai K ah "MOST" = some (some (.int 8 tk0))){tk1:Tok}(u1:ai K ah "NONE" = some (some (.str (ag "none") tk1)))(z0:ai K ah "len" = some none)(z1:ai K ah "tuple" = some none)(z2:ai K ah "list" = some none)(z3:ai K ah "int" = some none)(z4:ai K ah "bool" = some none)(z5:ai K ah "str" = some none)(z6:ai K ah "all" = some none)(z7:ai K ah "range" = some none)(z8:ai K ah "enumerate" = some none)(z9:ai K ah "zip" = some none)(z10:ai K ah "isinstance" = some none)(z11:ai K ah "ValueError" = some none)(w0:bj K (.ref C1) (.ref C0)=some true)(w1:bj K (.ref C2) (.ref C0)=some true)(y0:zD K C1)(v0:ax K (.ref C1) (.type "ValueError")=some true)(y1:zD K C2)(v1:ax K (.ref C2) (.type "ValueError")=some true)(t0:WB.Dk K "NoWeb" C1)(t1:WB.Dk K "NoPlaces" C2)(t2:WB.Dk K "NoPlace" C3)(t3:WB.Dk K "NoNumber" C4)(t4:WB.Dk K "NotUntied" C6)(t5:WB.Dk K "NoShares" C7)(t6:WB.Dk K "NotTree" C8)(t7:WB.Dk K "NotTold" C9)(t8:WB.Dk K "NoCrowds" C10)(t9:WB.Dk K "NoText" C11)(t10:WB.Dk K "NoLine" C12)(t11:WB.Dk K "NoDeed" C13)(t12:WB.Dk K "NotAll" C5)(t13:WB.Dk K "TooGreat" C14)(q0_1:ax K (.ref C1) (.ref C2)=some false)(n0_1:C1≠C2)(q0_2:ax K (.ref C1) (.ref C3)=some false)(n0_2:C1≠C3)(q0_3:ax K (.ref C1) (.ref C4)=some false)(n0_3:C1≠C4)(q0_4:ax K (.ref C1) (.ref C6)=some false)(n0_4:C1≠C6)(q0_5:ax K (.ref C1) (.ref C7)=some false)(n0_5:C1≠C7)(q0_6:ax K (.ref C1) (.ref C8)=some false)(n0_6:C1≠C8)(q0_7:ax K (.ref C1) (.ref C9)=some false)(n0_7:C1≠C9)(q0_8:ax K (.ref C1) (.ref C10)=some false)(n0_8:C1≠C10)(q0_9:ax K (.ref C1) (.ref C11)=some false)(n0_9:C1≠C11)(q0_10:ax K (.ref C1) (.ref C12)=some false)(n0_10:C1≠C12)(q0_11:ax K (.ref C1) (.ref C13)=some false)(n0_11:C1≠C13)(q0_12:ax K (.ref C1) (.ref C5)=some false)(n0_12:C1≠C5)(q0_13:ax K (.ref C1) (.ref C14)=some false)(n0_13:C1≠C14)(q1_0:ax K (.ref C2) (.ref C1)=some false)(n1_0:C2≠C1)(q1_2:ax K (.ref C2) (.ref C3)=some false)(n1_2:C2≠C3)(q1_3:ax K (.ref C2) (.ref C4)=some false)(n1_3:C2≠C4)(q1_4:ax K (.ref C2) (.ref C6)=some false)(n1_4:C2≠C6)(q1_5:ax K (.ref C2) (.ref C7)=some false)(n1_5:C2≠C7)(q1_6:ax K (.ref C2) (.ref C8)=some false)(n1_6:C2≠C8)(q1_7:ax K (.ref C2) (.ref C9)=some false)(n1_7:C2≠C9)(q1_8:ax K (.ref C2) (.ref C10)=some false)(n1_8:C2≠C10)(q1_9:ax K (.ref C2) (.ref C11)=some false)(n1_9:C2≠C11)(q1_10:ax K (.ref C2) (.ref C12)=some false)(n1_10:C2≠C12)(q1_11:ax K (.ref C2) (.ref C13)=some false)(n1_11:C2≠C13)(q1_12:ax K (.ref C2) (.ref C5)=some false)(n1_12:C2≠C5)(q1_13:ax K (.ref C2) (.ref C14)=some false)(n1_13:C2≠C14):Ground p (gOf K (tab.map (·.x)) [ag "PlaceError",ag "NoWeb",ag "NoPlaces",ag "NoPlace",ag "NoNumber",ag "NotAll",ag "NotUntied",ag "NoShares",ag "NotTree",ag "NotTold",ag "NoCrowds",ag "NoText",ag "NoLine",ag "NoDeed",ag "TooGreat"]) G (dJ us oth) (cR oth) mg/\eS K G dU:=
 have A:=mL d0 d1 d2 d3 d4 d5 d6 d7 d8 d9 d10 d11 d12 d13 d14 d15 d16 d17 d18 d19 d20 d21 d22 d23
 ⟨oy X N rfl nd (uE k0 k1 x1 k2 x2 k3 k4 k5 k6 k7 k8 k9 k10 k11 k12 k13 k14 u0 u1 z0 z1 z2 z3 z4 z5 z6 z7 z8 z9 z10 z11) xc vG uu kO A _ (tK k0 k1 k2 k3 k4 k5 k6 k7 k8 k9 k10 k11 k12 k13 k14 w0 w1) w9 (sL k0 k1 k2 k3 k4 k5 k6 k7 k8 k9 k10 k11 k12 k13 k14 y0 v0 y1 v1 t0 t1 t2 t3 t4 t5 t6 t7 t8 t9 t10 t11 t12 t13 q0_1 n0_1 q0_2 n0_2 q0_3 n0_3 q0_4 n0_4 q0_5 n0_5 q0_6 n0_6 q0_7 n0_7 q0_8 n0_8 q0_9 n0_9 q0_10 n0_10 q0_11 n0_11 q0_12 n0_12 q0_13 n0_13 q1_0 n1_0 q1_2 n1_2 q1_3 n1_3 q1_4 n1_4 q1_5 n1_5 q1_6 n1_6 q1_7 n1_7 q1_8 n1_8 q1_9 n1_9 q1_10 n1_10 q1_11 n1_11 q1_12 n1_12 q1_13 n1_13),A dU (by simp[tab])⟩
end
theorem walk{l:PySem.W.OpenLaw}{q:aw}{loose:List Str}{XP:(Str->Option ae)->Heap->Prop}{YP:ar->Heap->Prop}{d:DefRec}{K:Params->aq}(hn:l.most=some 63)(hdf:d.params.defaults=[])(hd:d.name = "law")(hY:∀(w:ar) (h:Heap),YP w h->(K w.params).In h)
  (hG:∀(w:ar) (mg:Str->Option ae) (h:Heap),(K w.params).In h->h.Ns ah mg->Ground p (gOf (K w.params) (tab.map (·.x)) [ag "PlaceError",ag "NoWeb",ag "NoPlaces",ag "NoPlace",ag "NoNumber",ag "NotAll",ag "NotUntied",ag "NoShares",ag "NotTree",ag "NotTold",ag "NoCrowds",ag "NoText",ag "NoLine",ag "NoDeed",ag "TooGreat"]) G (dJ us oth) (cR oth) mg/\eS (K w.params) G dU):PySem.W.WalkO q loose XP YP l.row.toRowW d [] (λf vs=>PySem.call f vs):=
 tF (e:=dU) (k:=depth) hn hdf hd ⟨rfl,by decide,by decide⟩ hY (by simp[tab]) nd rfl rfl (by kernel_rfl) hG (kO dU (by simp[tab])) wm
end K90
end
open PySem PySem.W PyProof.Rows
namespace PySem.W.Fast
def tw10309732370486482125:Nat:=0
theorem te10309732370486482125:tw10309732370486482125=0:=rfl
def tw11145473193439147917:Nat:=0
theorem te11145473193439147917:tw11145473193439147917=0:=rfl
def tw7135950280590765719:Nat:=0
theorem te7135950280590765719:tw7135950280590765719=0:=rfl
def tw15246819797386851029:Nat:=0
theorem te15246819797386851029:tw15246819797386851029=0:=rfl
def tw6429105035405711154:Nat:=0
theorem te6429105035405711154:tw6429105035405711154=0:=rfl
def tw11127433287607446452:Nat:=0
theorem te11127433287607446452:tw11127433287607446452=0:=rfl
def tw13160716591287232725:Nat:=0
theorem te13160716591287232725:tw13160716591287232725=0:=rfl
def tw1866297249109445478:Nat:=0
theorem te1866297249109445478:tw1866297249109445478=0:=rfl
def tw7190556742271548885:Nat:=0
theorem te7190556742271548885:tw7190556742271548885=0:=rfl
def tw15482427532816681486:Nat:=0
theorem te15482427532816681486:tw15482427532816681486=0:=rfl
def tw9932620533724772626:Nat:=0
theorem te9932620533724772626:tw9932620533724772626=0:=rfl
def tw5258661364619889761:Nat:=0
theorem te5258661364619889761:tw5258661364619889761=0:=rfl
def tw13208140937025208599:Nat:=0
theorem te13208140937025208599:tw13208140937025208599=0:=rfl
def tw16368449097736318270:Nat:=0
theorem te16368449097736318270:tw16368449097736318270=0:=rfl
def tw8285917086462013894:Nat:=0
theorem te8285917086462013894:tw8285917086462013894=0:=rfl
def tw18058548034937836588:Nat:=0
theorem te18058548034937836588:tw18058548034937836588=0:=rfl
def tw1267310822117315157:Nat:=0
theorem te1267310822117315157:tw1267310822117315157=0:=rfl
def tw15744839298829493181:Nat:=0
theorem te15744839298829493181:tw15744839298829493181=0:=rfl
def tw3611267734187258273:Nat:=0
theorem te3611267734187258273:tw3611267734187258273=0:=rfl
def tw4204824156067921397:Nat:=0
theorem te4204824156067921397:tw4204824156067921397=0:=rfl
def tw4981753734911408863:Nat:=0
theorem te4981753734911408863:tw4981753734911408863=0:=rfl
def tw7185701042005185402:Nat:=0
theorem te7185701042005185402:tw7185701042005185402=0:=rfl
def tw2423019648659595767:Nat:=0
theorem te2423019648659595767:tw2423019648659595767=0:=rfl
def tw2715308122904201610:Nat:=0
theorem te2715308122904201610:tw2715308122904201610=0:=rfl
def tw4300546551261744377:Nat:=0
theorem te4300546551261744377:tw4300546551261744377=0:=rfl
def tw867124388120335445:Nat:=0
theorem te867124388120335445:tw867124388120335445=0:=rfl
def tw14525772310883008457:Nat:=0
theorem te14525772310883008457:tw14525772310883008457=0:=rfl
def tw1161558546357308797:Nat:=0
theorem te1161558546357308797:tw1161558546357308797=0:=rfl
def tw18180051694003810005:Nat:=0
theorem te18180051694003810005:tw18180051694003810005=0:=rfl
def tw4188469561482973133:Nat:=0
theorem te4188469561482973133:tw4188469561482973133=0:=rfl
def tw7083766261628271010:Nat:=0
theorem te7083766261628271010:tw7083766261628271010=0:=rfl
def tw17972262604417007858:Nat:=0
theorem te17972262604417007858:tw17972262604417007858=0:=rfl
def tw14878819547868428822:Nat:=0
theorem te14878819547868428822:tw14878819547868428822=0:=rfl
def tw1551401656171414347:Nat:=0
theorem te1551401656171414347:tw1551401656171414347=0:=rfl
def tw5435803444390700064:Nat:=0
theorem te5435803444390700064:tw5435803444390700064=0:=rfl
def tw5180438833899205898:Nat:=0
theorem te5180438833899205898:tw5180438833899205898=0:=rfl
def tw15300543458302701170:Nat:=0
theorem te15300543458302701170:tw15300543458302701170=0:=rfl
def tw5542964038355766796:Nat:=0
theorem te5542964038355766796:tw5542964038355766796=0:=rfl
def tw13484424740094547368:Nat:=0
theorem te13484424740094547368:tw13484424740094547368=0:=rfl
def tw7894689099741263779:Nat:=0
theorem te7894689099741263779:tw7894689099741263779=0:=rfl
def tw13854880231128738756:Nat:=0
theorem te13854880231128738756:tw13854880231128738756=0:=rfl
def tw15769829327594475909:Nat:=0
theorem te15769829327594475909:tw15769829327594475909=0:=rfl
def tw8244069263637492499:Nat:=0
theorem te8244069263637492499:tw8244069263637492499=0:=rfl
def tw5778387573101840739:Nat:=0
theorem te5778387573101840739:tw5778387573101840739=0:=rfl
def tw3016064213628099516:Nat:=0
theorem te3016064213628099516:tw3016064213628099516=0:=rfl
def tw3451088353029125925:Nat:=0
theorem te3451088353029125925:tw3451088353029125925=0:=rfl
def tw4841940081450691677:Nat:=0
theorem te4841940081450691677:tw4841940081450691677=0:=rfl
def tw9734166776699069764:Nat:=0
theorem te9734166776699069764:tw9734166776699069764=0:=rfl
def tw10292438995130681074:Nat:=0
theorem te10292438995130681074:tw10292438995130681074=0:=rfl
def tw3084903854988486182:Nat:=0
theorem te3084903854988486182:tw3084903854988486182=0:=rfl
def tw5675894191133333915:Nat:=0
theorem te5675894191133333915:tw5675894191133333915=0:=rfl
def tw16439334393525341904:Nat:=0
theorem te16439334393525341904:tw16439334393525341904=0:=rfl
def tw6972737535387860466:Nat:=0
theorem te6972737535387860466:tw6972737535387860466=0:=rfl
def tw12165909066748594994:Nat:=0
theorem te12165909066748594994:tw12165909066748594994=0:=rfl
def tw9254519566751134018:Nat:=0
theorem te9254519566751134018:tw9254519566751134018=0:=rfl
def tw16266545194489493551:Nat:=0
theorem te16266545194489493551:tw16266545194489493551=0:=rfl
def tw15332456994527342931:Nat:=0
theorem te15332456994527342931:tw15332456994527342931=0:=rfl
def tw2532955372704836677:Nat:=0
theorem te2532955372704836677:tw2532955372704836677=0:=rfl
def tw541160705781036883:Nat:=0
theorem te541160705781036883:tw541160705781036883=0:=rfl
def tw1100955312287377452:Nat:=0
theorem te1100955312287377452:tw1100955312287377452=0:=rfl
def tw15463175896310252439:Nat:=0
theorem te15463175896310252439:tw15463175896310252439=0:=rfl
def tw3157426360720369397:Nat:=0
theorem te3157426360720369397:tw3157426360720369397=0:=rfl
def tw1111794429161805418:Nat:=0
theorem te1111794429161805418:tw1111794429161805418=0:=rfl
def tw17789727425533634778:Nat:=0
theorem te17789727425533634778:tw17789727425533634778=0:=rfl
def tw13563079774766200542:Nat:=0
theorem te13563079774766200542:tw13563079774766200542=0:=rfl
def tw14442565723085447926:Nat:=0
theorem te14442565723085447926:tw14442565723085447926=0:=rfl
def tw10120581683141535417:Nat:=0
theorem te10120581683141535417:tw10120581683141535417=0:=rfl
def tw13251800434320978611:Nat:=0
theorem te13251800434320978611:tw13251800434320978611=0:=rfl
def tw11558268229788788763:Nat:=0
theorem te11558268229788788763:tw11558268229788788763=0:=rfl
def tw14152409138032782000:Nat:=0
theorem te14152409138032782000:tw14152409138032782000=0:=rfl
def tw17503816464944948331:Nat:=0
theorem te17503816464944948331:tw17503816464944948331=0:=rfl
def tw7813260997115399242:Nat:=0
theorem te7813260997115399242:tw7813260997115399242=0:=rfl
def tw2081195361726174744:Nat:=0
theorem te2081195361726174744:tw2081195361726174744=0:=rfl
def tw6317669752552312869:Nat:=0
theorem te6317669752552312869:tw6317669752552312869=0:=rfl
def tw10188928048664928133:Nat:=0
theorem te10188928048664928133:tw10188928048664928133=0:=rfl
def tw12434090335304522979:Nat:=0
theorem te12434090335304522979:tw12434090335304522979=0:=rfl
def tw14658385819362968638:Nat:=0
theorem te14658385819362968638:tw14658385819362968638=0:=rfl
def tw17630395249115548652:Nat:=0
theorem te17630395249115548652:tw17630395249115548652=0:=rfl
def tw7904946902751182843:Nat:=0
theorem te7904946902751182843:tw7904946902751182843=0:=rfl
def tw11829292017611796760:Nat:=0
theorem te11829292017611796760:tw11829292017611796760=0:=rfl
def tw9214873236239344771:Nat:=0
theorem te9214873236239344771:tw9214873236239344771=0:=rfl
def tw8053030713056046365:Nat:=0
theorem te8053030713056046365:tw8053030713056046365=0:=rfl
def tw338739972084984008:Nat:=0
theorem te338739972084984008:tw338739972084984008=0:=rfl
def tw2782129892137324296:Nat:=0
theorem te2782129892137324296:tw2782129892137324296=0:=rfl
def tw13412895280823307405:Nat:=0
theorem te13412895280823307405:tw13412895280823307405=0:=rfl
def tw12807519565943110076:Nat:=0
theorem te12807519565943110076:tw12807519565943110076=0:=rfl
def tw11801475179878725039:Nat:=0
theorem te11801475179878725039:tw11801475179878725039=0:=rfl
def tw5261419611642035192:Nat:=0
theorem te5261419611642035192:tw5261419611642035192=0:=rfl
def tw11308447383946596517:Nat:=0
theorem te11308447383946596517:tw11308447383946596517=0:=rfl
def tw14562907412571242628:Nat:=0
theorem te14562907412571242628:tw14562907412571242628=0:=rfl
def tw5395817488324950817:Nat:=0
theorem te5395817488324950817:tw5395817488324950817=0:=rfl
def tw7284734804758207608:Nat:=0
theorem te7284734804758207608:tw7284734804758207608=0:=rfl
def tw14959037299385843596:Nat:=0
theorem te14959037299385843596:tw14959037299385843596=0:=rfl
def tw6948291663667200204:Nat:=0
theorem te6948291663667200204:tw6948291663667200204=0:=rfl
def tw5193539171939274076:Nat:=0
theorem te5193539171939274076:tw5193539171939274076=0:=rfl
def tw4047015435910928904:Nat:=0
theorem te4047015435910928904:tw4047015435910928904=0:=rfl
def tw2108160778309228825:Nat:=0
theorem te2108160778309228825:tw2108160778309228825=0:=rfl
def tw12065164520914842302:Nat:=0
theorem te12065164520914842302:tw12065164520914842302=0:=rfl
def tw8369396522098705720:Nat:=0
theorem te8369396522098705720:tw8369396522098705720=0:=rfl
def tw10376035902646906595:Nat:=0
theorem te10376035902646906595:tw10376035902646906595=0:=rfl
def tw3503792946705793154:Nat:=0
theorem te3503792946705793154:tw3503792946705793154=0:=rfl
def tw9226026713911566428:Nat:=0
theorem te9226026713911566428:tw9226026713911566428=0:=rfl
def tw2579207339122654652:Nat:=0
theorem te2579207339122654652:tw2579207339122654652=0:=rfl
def tw11298002078906645876:Nat:=0
theorem te11298002078906645876:tw11298002078906645876=0:=rfl
def tw8195617200237236441:Nat:=0
theorem te8195617200237236441:tw8195617200237236441=0:=rfl
def tw6724219036861141105:Nat:=0
theorem te6724219036861141105:tw6724219036861141105=0:=rfl
def tw5240711506037334592:Nat:=0
theorem te5240711506037334592:tw5240711506037334592=0:=rfl
def tw1912440825717386115:Nat:=0
theorem te1912440825717386115:tw1912440825717386115=0:=rfl
def tw10210635600997484884:Nat:=0
theorem te10210635600997484884:tw10210635600997484884=0:=rfl
def tw4938593088434849863:Nat:=0
theorem te4938593088434849863:tw4938593088434849863=0:=rfl
def tw18253827118500002996:Nat:=0
theorem te18253827118500002996:tw18253827118500002996=0:=rfl
def tw5848398733076944106:Nat:=0
theorem te5848398733076944106:tw5848398733076944106=0:=rfl
def tw954197248216074893:Nat:=0
theorem te954197248216074893:tw954197248216074893=0:=rfl
def tw12545922963328238346:Nat:=0
theorem te12545922963328238346:tw12545922963328238346=0:=rfl
def tw14903764432280972184:Nat:=0
theorem te14903764432280972184:tw14903764432280972184=0:=rfl
def tw8729178801362595614:Nat:=0
theorem te8729178801362595614:tw8729178801362595614=0:=rfl
def tw293577894214432626:Nat:=0
theorem te293577894214432626:tw293577894214432626=0:=rfl
def tw5509309285100070470:Nat:=0
theorem te5509309285100070470:tw5509309285100070470=0:=rfl
def tw15161446183830894513:Nat:=0
theorem te15161446183830894513:tw15161446183830894513=0:=rfl
def tw7477023688800971535:Nat:=0
theorem te7477023688800971535:tw7477023688800971535=0:=rfl
def tw9813461428927939750:Nat:=0
theorem te9813461428927939750:tw9813461428927939750=0:=rfl
def tw7713876221118229335:Nat:=0
theorem te7713876221118229335:tw7713876221118229335=0:=rfl
def tw14996558237875295247:Nat:=0
theorem te14996558237875295247:tw14996558237875295247=0:=rfl
def tw6526748593502516004:Nat:=0
theorem te6526748593502516004:tw6526748593502516004=0:=rfl
def tw774586222571811837:Nat:=0
theorem te774586222571811837:tw774586222571811837=0:=rfl
def tw9667729171278854919:Nat:=0
theorem te9667729171278854919:tw9667729171278854919=0:=rfl
def tw9818929131140333755:Nat:=0
theorem te9818929131140333755:tw9818929131140333755=0:=rfl
def tw9528014146551551838:Nat:=0
theorem te9528014146551551838:tw9528014146551551838=0:=rfl
def tw14480056979996775268:Nat:=0
theorem te14480056979996775268:tw14480056979996775268=0:=rfl
def tw14990090951249775150:Nat:=0
theorem te14990090951249775150:tw14990090951249775150=0:=rfl
def tw14994115118527321292:Nat:=0
theorem te14994115118527321292:tw14994115118527321292=0:=rfl
def tw9252385130344147364:Nat:=0
theorem te9252385130344147364:tw9252385130344147364=0:=rfl
def tw6426780349876502602:Nat:=0
theorem te6426780349876502602:tw6426780349876502602=0:=rfl
def tw7225514341436864727:Nat:=0
theorem te7225514341436864727:tw7225514341436864727=0:=rfl
def tw10810033131739826092:Nat:=0
theorem te10810033131739826092:tw10810033131739826092=0:=rfl
def tw10662397471720792600:Nat:=0
theorem te10662397471720792600:tw10662397471720792600=0:=rfl
def tw14329642071852836183:Nat:=0
theorem te14329642071852836183:tw14329642071852836183=0:=rfl
def tw16093159425803678040:Nat:=0
theorem te16093159425803678040:tw16093159425803678040=0:=rfl
def tw18378813733409295319:Nat:=0
theorem te18378813733409295319:tw18378813733409295319=0:=rfl
def tw14241295221323523376:Nat:=0
theorem te14241295221323523376:tw14241295221323523376=0:=rfl
def tw14730626540126036732:Nat:=0
theorem te14730626540126036732:tw14730626540126036732=0:=rfl
def tw226890362547422910:Nat:=0
theorem te226890362547422910:tw226890362547422910=0:=rfl
def tw10608184721821731273:Nat:=0
theorem te10608184721821731273:tw10608184721821731273=0:=rfl
def tw16531179601525677522:Nat:=0
theorem te16531179601525677522:tw16531179601525677522=0:=rfl
def tw16482785661734117573:Nat:=0
theorem te16482785661734117573:tw16482785661734117573=0:=rfl
def tw2445397210601352989:Nat:=0
theorem te2445397210601352989:tw2445397210601352989=0:=rfl
def tw11591458501378132988:Nat:=0
theorem te11591458501378132988:tw11591458501378132988=0:=rfl
def tw2938651292105537462:Nat:=0
theorem te2938651292105537462:tw2938651292105537462=0:=rfl
def tw8999764002038599153:Nat:=0
theorem te8999764002038599153:tw8999764002038599153=0:=rfl
def tw1245713437522810807:Nat:=0
theorem te1245713437522810807:tw1245713437522810807=0:=rfl
def tw17536228032834394226:Nat:=0
theorem te17536228032834394226:tw17536228032834394226=0:=rfl
def tw12883013274406540741:Nat:=0
theorem te12883013274406540741:tw12883013274406540741=0:=rfl
def tw17399693514915212268:Nat:=0
theorem te17399693514915212268:tw17399693514915212268=0:=rfl
def tw9293795293282575709:Nat:=0
theorem te9293795293282575709:tw9293795293282575709=0:=rfl
def tw12473407535084687355:Nat:=0
theorem te12473407535084687355:tw12473407535084687355=0:=rfl
def tw15397913483241308833:Nat:=0
theorem te15397913483241308833:tw15397913483241308833=0:=rfl
def tw13201339716489772387:Nat:=0
theorem te13201339716489772387:tw13201339716489772387=0:=rfl
def tw1268388764240000984:Nat:=0
theorem te1268388764240000984:tw1268388764240000984=0:=rfl
def tw705898898975955985:Nat:=0
theorem te705898898975955985:tw705898898975955985=0:=rfl
def tw13875218193030198378:Nat:=0
theorem te13875218193030198378:tw13875218193030198378=0:=rfl
def tw17442594302559482006:Nat:=0
theorem te17442594302559482006:tw17442594302559482006=0:=rfl
def tw14552571219383317145:Nat:=0
theorem te14552571219383317145:tw14552571219383317145=0:=rfl
def tw9082360083943100390:Nat:=0
theorem te9082360083943100390:tw9082360083943100390=0:=rfl
def tw11732294871743736014:Nat:=0
theorem te11732294871743736014:tw11732294871743736014=0:=rfl
def tw15509562895821121288:Nat:=0
theorem te15509562895821121288:tw15509562895821121288=0:=rfl
def tw259595526917042817:Nat:=0
theorem te259595526917042817:tw259595526917042817=0:=rfl
def tw15290218754238995122:Nat:=0
theorem te15290218754238995122:tw15290218754238995122=0:=rfl
def tw11137013963319599980:Nat:=0
theorem te11137013963319599980:tw11137013963319599980=0:=rfl
def tw15466886049839084139:Nat:=0
theorem te15466886049839084139:tw15466886049839084139=0:=rfl
def tw17212638964625711280:Nat:=0
theorem te17212638964625711280:tw17212638964625711280=0:=rfl
def tw18176656386437309633:Nat:=0
theorem te18176656386437309633:tw18176656386437309633=0:=rfl
def tw9369159943338306196:Nat:=0
theorem te9369159943338306196:tw9369159943338306196=0:=rfl
def tw5994118846808385373:Nat:=0
theorem te5994118846808385373:tw5994118846808385373=0:=rfl
def tw12590696383720853271:Nat:=0
theorem te12590696383720853271:tw12590696383720853271=0:=rfl
def tw9817659515174106651:Nat:=0
theorem te9817659515174106651:tw9817659515174106651=0:=rfl
def tw2087203337397220175:Nat:=0
theorem te2087203337397220175:tw2087203337397220175=0:=rfl
def tw4993038821184579959:Nat:=0
theorem te4993038821184579959:tw4993038821184579959=0:=rfl
def tw7701740150218068156:Nat:=0
theorem te7701740150218068156:tw7701740150218068156=0:=rfl
def tw10244402334889413714:Nat:=0
theorem te10244402334889413714:tw10244402334889413714=0:=rfl
def tw12286524736453552314:Nat:=0
theorem te12286524736453552314:tw12286524736453552314=0:=rfl
def tw10618860833955938671:Nat:=0
theorem te10618860833955938671:tw10618860833955938671=0:=rfl
def tw5214009131537543066:Nat:=0
theorem te5214009131537543066:tw5214009131537543066=0:=rfl
def tw10700597773399025711:Nat:=0
theorem te10700597773399025711:tw10700597773399025711=0:=rfl
def tw16423385313693008709:Nat:=0
theorem te16423385313693008709:tw16423385313693008709=0:=rfl
def tw11253908598321780450:Nat:=0
theorem te11253908598321780450:tw11253908598321780450=0:=rfl
def tw4990622672596451425:Nat:=0
theorem te4990622672596451425:tw4990622672596451425=0:=rfl
def tw15085791977566593967:Nat:=0
theorem te15085791977566593967:tw15085791977566593967=0:=rfl
def tw6977370393158048005:Nat:=0
theorem te6977370393158048005:tw6977370393158048005=0:=rfl
def tw6590323891482503743:Nat:=0
theorem te6590323891482503743:tw6590323891482503743=0:=rfl
def tw16148354918542141576:Nat:=0
theorem te16148354918542141576:tw16148354918542141576=0:=rfl
def tw6872335236604264069:Nat:=0
theorem te6872335236604264069:tw6872335236604264069=0:=rfl
def tw12522067442121792:Nat:=0
theorem te12522067442121792:tw12522067442121792=0:=rfl
def tw6350081212627331693:Nat:=0
theorem te6350081212627331693:tw6350081212627331693=0:=rfl
def tw12273857999478643178:Nat:=0
theorem te12273857999478643178:tw12273857999478643178=0:=rfl
def tw4905607786214761841:Nat:=0
theorem te4905607786214761841:tw4905607786214761841=0:=rfl
def tw7407552735080585859:Nat:=0
theorem te7407552735080585859:tw7407552735080585859=0:=rfl
def tw16589893870204416586:Nat:=0
theorem te16589893870204416586:tw16589893870204416586=0:=rfl
def tw15408214846760051155:Nat:=0
theorem te15408214846760051155:tw15408214846760051155=0:=rfl
def tw6522301773042460351:Nat:=0
theorem te6522301773042460351:tw6522301773042460351=0:=rfl
def tw14728458894971080153:Nat:=0
theorem te14728458894971080153:tw14728458894971080153=0:=rfl
def tw11812402184143568961:Nat:=0
theorem te11812402184143568961:tw11812402184143568961=0:=rfl
def tw17810311112612661697:Nat:=0
theorem te17810311112612661697:tw17810311112612661697=0:=rfl
def tw9816562973010170733:Nat:=0
theorem te9816562973010170733:tw9816562973010170733=0:=rfl
def tw6466456306260936389:Nat:=0
theorem te6466456306260936389:tw6466456306260936389=0:=rfl
def tw12850047300308620029:Nat:=0
theorem te12850047300308620029:tw12850047300308620029=0:=rfl
def tw1933880134833242438:Nat:=0
theorem te1933880134833242438:tw1933880134833242438=0:=rfl
def tw16428210975356170132:Nat:=0
theorem te16428210975356170132:tw16428210975356170132=0:=rfl
end PySem.W.Fast
set_option maxRecDepth 100000 in
set_option maxHeartbeats 0 in
theorem PySem.Challenge.cw_holdplaces_k90_webs_and_places_written_holds : PySem.Challenge.rw_holdplaces_k90_webs_and_places_written.Holds := by
 w_on;o_law;k_head;(case hw=>w_witness2)
 k_fill
 refine K90.walk (l:=PySem.Challenge.rw_holdplaces_k90_webs_and_places_written) rfl rfl rfl (λw h Y=>PySem.W.kIn_of Y) ?F
 case F=>
  intro w mg h KX N
  refine' K90.all_mk (WB.zq ?_ ?_ ?_ ?_) (WB.zq ?_ ?_ ?_ ?_) (WB.zq ?_ ?_ ?_ ?_) (WB.zq ?_ ?_ ?_ ?_) (WB.zq ?_ ?_ ?_ ?_) (WB.zq ?_ ?_ ?_ ?_) (WB.zq ?_ ?_ ?_ ?_) (WB.zq ?_ ?_ ?_ ?_) (WB.zq ?_ ?_ ?_ ?_) (WB.zq ?_ ?_ ?_ ?_) (WB.zq ?_ ?_ ?_ ?_) (WB.zq ?_ ?_ ?_ ?_) (WB.zq ?_ ?_ ?_ ?_) (WB.zq ?_ ?_ ?_ ?_) (WB.zq ?_ ?_ ?_ ?_) (WB.zq ?_ ?_ ?_ ?_) (WB.zq ?_ ?_ ?_ ?_) (WB.zq ?_ ?_ ?_ ?_) (WB.zq ?_ ?_ ?_ ?_) (WB.zq ?_ ?_ ?_ ?_) (WB.zq ?_ ?_ ?_ ?_) (WB.zq ?_ ?_ ?_ ?_) (WB.zq ?_ ?_ ?_ ?_) (WB.zq ?_ ?_ ?_ ?_) KX N ?_ ?_ ?_ ?_ ?_ ?_ ?_ ?_ ?_ ?_ ?_ ?_ ?_ ?_ ?_ ?_ ?_ ?_ ?_ ?_ ?_ ?_ ?_ ?_ ?_ ?_ ?_ ?_ ?_ ?_ ?_ (WB.kJ ?w0_1 ?w0_2 ?w0_3 ?w0_4) (WB.kJ ?w1_1 ?w1_2 ?w1_3 ?w1_4) (WB.ma ?s0_1 ?s0_2 ?s0_3 ?s0_4 ?s0_5 ?s0_6) ?v0 (WB.ma ?s1_1 ?s1_2 ?s1_3 ?s1_4 ?s1_5 ?s1_6) ?v1 (WB.bV ?t0_1 ?t0_2 ?t0_3) (WB.bV ?t1_1 ?t1_2 ?t1_3) (WB.bV ?t2_1 ?t2_2 ?t2_3) (WB.bV ?t3_1 ?t3_2 ?t3_3) (WB.bV ?t4_1 ?t4_2 ?t4_3) (WB.bV ?t5_1 ?t5_2 ?t5_3) (WB.bV ?t6_1 ?t6_2 ?t6_3) (WB.bV ?t7_1 ?t7_2 ?t7_3) (WB.bV ?t8_1 ?t8_2 ?t8_3) (WB.bV ?t9_1 ?t9_2 ?t9_3) (WB.bV ?t10_1 ?t10_2 ?t10_3) (WB.bV ?t11_1 ?t11_2 ?t11_3) (WB.bV ?t12_1 ?t12_2 ?t12_3) (WB.bV ?t13_1 ?t13_2 ?t13_3) ?q0_1 ?n0_1 ?q0_2 ?n0_2 ?q0_3 ?n0_3 ?q0_4 ?n0_4 ?q0_5 ?n0_5 ?q0_6 ?n0_6 ?q0_7 ?n0_7 ?q0_8 ?n0_8 ?q0_9 ?n0_9 ?q0_10 ?n0_10 ?q0_11 ?n0_11 ?q0_12 ?n0_12 ?q0_13 ?n0_13 ?q1_0 ?n1_0 ?q1_2 ?n1_2 ?q1_3 ?n1_3 ?q1_4 ?n1_4 ?q1_5 ?n1_5 ?q1_6 ?n1_6 ?q1_7 ?n1_7 ?q1_8 ?n1_8 ?q1_9 ?n1_9 ?q1_10 ?n1_10 ?q1_11 ?n1_11 ?q1_12 ?n1_12 ?q1_13 ?n1_13
  any_goals k_is
  any_goals k_exc
  any_goals decide
#print axioms PySem.Challenge.cw_holdplaces_k90_webs_and_places_written_holds
