import PyProof.Rows.All
import Wide.All
import OpenK.AllK
import Wide.FinOn
import Lean
import PyProof.EqAt
import PyProof.EqKinds
import PyProof.TupleCall
import PyProof.Rows.Range3
import PyProof.Rows.FStr
import KE.LcSums
import PyProof.SeqI3
import KE.KMinBuiltin
import PyProof.Rows.ListMulArg
import KE.KSortTup
import PyProof.ListRange
import PyProof.TupleOfSeq
import PySem.Challenge.RW_holdplaces_k05_beside_and_crowned
set_option Elab.async false
set_option bootstrap.genMatcherCode false
set_option maxHeartbeats 8000000
set_option maxRecDepth 100000
set_option linter.all false
noncomputable section
open PyProof.Rows renaming callWith_type1→dC,Keyed→aA
open PySem.Builtin.SmallTypes renaming nextOf→b8
open Option renaming bind_eq_some_iff→az,map_eq_some_iff→bF,bind_eq_bind→aB
open List renaming mem_append_right→bQ,mem_cons_of_mem→aI,mem_cons_self→aL,length_append→b_,size_toArray→aO,lookup_cons→aX,not_mem_nil→br,length_cons→cq,length_map→aW,replicate→bD,mem_cons→aG,map_cons→bt,mem_map→bj,range→aV
open PySem renaming mem_of_lookup→bR,wpAny_truthy_bool→bB,wpAny_newObj_type→cm,wpAny_call_entry→cw,wpAny_holding→bO,Comprehension→bV,bootBuiltins→bx,mainGlobals→ak,sizeLine_eq→a0,wpAny_field→ba,wpAny_bind→ag,wpAny_pure→ax,wpAny_mono→bu,compareOp→aQ,cellsFrom→aU,starEach→aH,sizeLine→aK,NameKind→aM,binaryOp→bq,FuncData→bw,Program→av,Shared→af,Around→aw,Value→ae,wpAny→ai,model→aj,World→au,Scope→aN
open PySem.W renaming hideAll_get→cJ,mg_none_of→cK,kas_desc→a9,kas_rev→bc,kia_one→bC,kitOne→a_,exmOne→bG,keepIn→bT,subIn→ay,nsIn→ao,Frag→aq,fnOf→bJ
open Nat renaming lt_of_lt_of_le→aY,lt_irrefl→bh,ne_of_lt→aS,le_trans→aZ,le_refl→aF
open Bool renaming false_ne_true→bS,false_eq_true→b9,not_eq_true'→bH,and_eq_true→aJ,or_eq_true→cx
open Option.some renaming injEq→bN,inj→bg
open ForInStep renaming yield→cy
open PySem.Heap renaming size_push→bU,lt_size→aC
open PySem.NameKind renaming free→bI
open PySem.Str renaming ofString→ah
open False renaming elim→aP
open PySem.Value renaming none→bf,bool→bp,ref→aR
open PySem.Obj renaming mapSeq→bz
open And renaming intro→ar
set_option Elab.async false
namespace L2
open PySem PySem.Spec PyProof.Rows
abbrev Key:=Sum Int Str
noncomputable def mH:Key->ae->Bool
 | .inl k,v=>ae.isInt k v
 | .inr x,v=>ae.isStrOf x v
noncomputable def px(w:au):Key->Int
 | .inl k=>hashInt k
 | .inr x=>hashStr w x
theorem zG:∀{k:Key}{v:ae},mH k v=true->(∃i t,k=Sum.inl i/\v=ae.int i t)\/(∃x t,k=Sum.inr x/\v=ae.str x t)
 | .inl i,v,h=>by
  obtain⟨t,e⟩:=ae.isInt_shape (k:=i) (v:=v) h;exact .inl ⟨i,t,rfl,e⟩
 | .inr x,v,h=>by
  obtain⟨t,e⟩:=ae.isStrOf_shape (x:=x) (v:=v) h;exact .inr ⟨x,t,rfl,e⟩
theorem tG(a b:Int):decide ((Sum.inl a:Key)=Sum.inl b)=(a==b):=by
 by_cases e:a=b
 ·subst e;simp
 ·have h:¬ (Sum.inl a:Key)=Sum.inl b:=λq=>e (Sum.inl.inj q)
  rw[decide_eq_false h];exact(beq_eq_false_iff_ne.mpr e).symm
theorem pS(a b:Str):decide ((Sum.inr a:Key)=Sum.inr b)=decide (a=b):=by
 by_cases e:a=b
 ·subst e;simp
 ·have h:¬ (Sum.inr a:Key)=Sum.inr b:=λq=>e (Sum.inr.inj q)
  rw[decide_eq_false h,decide_eq_false e]
theorem tK(a:Int)(b:Str):decide ((Sum.inl a:Key)=Sum.inr b)=false:=decide_eq_false (λq=>nomatch q)
theorem r_(a:Str)(b:Int):decide ((Sum.inr a:Key)=Sum.inl b)=false:=decide_eq_false (λq=>nomatch q)
noncomputable def jb(prog:av)(w:au):PySem.KeyKind prog w Key where
 is:=mH
 hash:=px w
 inj:=λv a b ha hb=>by
  rcases zG ha with ⟨i,t,rfl,rfl⟩|⟨x,t,rfl,rfl⟩
  ·rcases zG hb with ⟨j,u,rfl,e⟩|⟨y,u,rfl,e⟩
   ·injection e with e1 _;rw[e1]
   ·exact nomatch e
  ·rcases zG hb with ⟨j,u,rfl,e⟩|⟨y,u,rfl,e⟩
   ·exact nomatch e
   ·injection e with e1 _;rw[e1]
 byValue:=λk v h=>by
  rcases zG h with ⟨i,t,rfl,rfl⟩|⟨x,t,rfl,rfl⟩<;>rfl
 pyHash:=λhv h=>by
  rcases zG hv with ⟨i,t,rfl,rfl⟩|⟨x,t,rfl,rfl⟩
  ·exact wpAny_pyHash_int h
  ·exact wpAny_pyHash_str h
 eqBool:=λhu hv h=>by
  rcases zG hu with ⟨i,t,rfl,rfl⟩|⟨x,t,rfl,rfl⟩
  ·rcases zG hv with ⟨j,u,rfl,rfl⟩|⟨y,u,rfl,rfl⟩
   ·rw[tG]at h;exact wpAny_eqBool_int h
   ·rw[tK]at h;exact SeqAt.EqAt.int_str i t y u _ _ _ _ h
  ·rcases zG hv with ⟨j,u,rfl,rfl⟩|⟨y,u,rfl,rfl⟩
   ·rw[r_]at h;exact SeqAt.EqAt.str_int x t j u _ _ _ _ h
   ·rw[pS]at h;exact wpAny_eqBool_str h
 «strs»:=λk x t v h=>by
  rcases zG h with ⟨i,u,rfl,e⟩|⟨y,u,rfl,e⟩
  ·exact nomatch e
  ·injection e with e1 _
   subst e1;cases v<;>rfl
inductive V where
 |non|bl (b:Bool)|int (i:Int)|str (x:Str)|byt (b:Array UInt8)|flt (b:UInt64)|ref (a:Addr)|ty (n:String)
 deriving DecidableEq
noncomputable def RelV:V->ae->Prop
 | .non,u=>u=bf
 | .bl b,u=>u=bp b
 | .int i,u=>∃t,u=ae.int i t
 | .str x,u=>∃t,u=ae.str x t
 | .byt b,u=>∃t,u=ae.bytes b t
 | .flt b,u=>∃t,u=ae.float b t
 | .ref a,u=>u=aR a
 | .ty n,u=>u=ae.type n
abbrev Vals:List V->List ae->Prop:=Paired RelV
theorem Vals.length{xs:List V}{us:List ae}(r:Vals xs us):xs.length=us.length:=Paired.length r
theorem Vals.get:∀{xs:List V}{us:List ae}{i:Nat}{x:V},Vals xs us->xs[i]? = some x->∃u,us[i]? = some u/\RelV x u
 |_,_,_,_,.nil,e=>by simp at e
 |_,_,0,_,.cons r _,e=>by simp at e;subst e;exact⟨_,rfl,r⟩
 |_,_,i+1,x,.cons _ t,e=>by
  obtain⟨u,h1,h2⟩:=Vals.get (i:=i) (x:=x) t (by simpa using e);exact⟨u,by simpa using h1,h2⟩
theorem Vals.set{x:V}{u:ae}(r:RelV x u):∀{xs:List V}{us:List ae} (i:Nat),Vals xs us->Vals (xs.set i x) (us.set i u)
 |_,_,_,.nil=>.nil
 |_,_,0,.cons _ t=>.cons r t
 |_,_,i+1,.cons q t=>.cons q (Vals.set r i t)
theorem Vals.append:∀{xs ys:List V}{us ws:List ae},Vals xs us->Vals ys ws->Vals (xs++ys) (us++ws)
 |_,_,_,_,.nil,s=>s
 |_,_,_,_,.cons r t,s=>.cons r (Vals.append t s)
theorem Vals.take:∀{xs:List V}{us:List ae} (n:Nat),Vals xs us->Vals (xs.take n) (us.take n)
 |_,_,0,_=>.nil
 |_,_,_+1,.nil=>.nil
 |_,_,n+1,.cons r t=>.cons r (Vals.take n t)
theorem Vals.drop:∀{xs:List V}{us:List ae} (n:Nat),Vals xs us->Vals (xs.drop n) (us.drop n)
 |_,_,0,r=>r
 |_,_,_+1,.nil=>.nil
 |_,_,n+1,.cons _ t=>Vals.drop n t
noncomputable def fC:Option V->Option ae->Prop
 |some v,some u=>RelV v u
 |none,none=>True
 |_,_=>False
noncomputable def KV{κ:Type}:List (κ×V)->List (κ×ae)->Prop:=Paired λ(p:κ×V) (q:κ×ae)=>p.1=q.1/\RelV p.2 q.2
noncomputable def kV:Key->V
 | .inl i=>.int i
 | .inr x=>.str x
inductive HO where
 |lst (xs:List V)
 |tup (xs:List V)
 |dK (kvs:List (Key×V))|dT (kvs:List (List Key×V))
 |set (S:Int->Bool) (n:Nat)
 |ins (C dx:Addr) (fs:List (Str×V))
 |own (x:Addr)
 |xd (fs:List (Str×V))
 |met (f x:Addr)
 |rng (lo hi:Int)
 |frz (o:Obj) (u:HO)
 |tbl (ps:Array ae)
 |ext (φ:Heap->Prop)
abbrev Hp:=Addr->Option HO
noncomputable def upd(H:Hp)(a:Addr)(o:HO):Hp:=λb=>if b=a then some o else H b
theorem zp{H:Hp}{a:Addr}{o:HO}:upd H a o a=some o:=by unfold upd;rw[if_pos rfl]
theorem qg{H:Hp}{a b:Addr}{o:HO}(h:b≠a):upd H a o b=H b:=by unfold upd;rw[if_neg h]
theorem fF{H:Hp}{a b:Addr}{o:HO}(h:H a=some o)(h':H b=none):a≠b:=by
 intro e;subst e;rw[h]at h';cases h'
section
variable(P:av)(w:au)
noncomputable def zy(H:Hp)(h:Heap)(a:Addr):HO->Prop
 | .lst xs=>xs.length<=aK/\∃(its:List ae) (n:Nat),Vals xs its/\h.get? a=some {cls:=.type "list",data:=.seq its.toArray n}
 | .tup xs=>xs.length<=aK/\∃its:List ae,Vals xs its/\IsTup h a its.toArray
 | .dK kvs=>kvs.length<=aK/\(a==sysModules)=false/\∃vs,KV kvs vs/\h.DictOf (jb P w) a vs
 | .dT kvs=>kvs.length<=aK/\(a==sysModules)=false/\∃xs:List (List Key×Addr×ae),
   Paired (λ(p:List Key×V) (q:List Key×Addr×ae)=>p.1=q.1/\H q.2.1=some (.tup (p.1.map kV))/\RelV p.2 q.2.2) kvs xs /\
   ∃o es ep,h.get? a=some o/\o.ExactDict/\o.data=.dict es ep/\es.toList=xs.map (entryOfKey (tupleKind (jb P w)))/\(xs.map (·.1)).Nodup
 | .set S n=>h.SetOf (intKind P w) a S n
 | .ins C dx fs=>H dx=some (.own a)/\fs.length<=1000/\dx≠a/\h.get? a=some (PySem.W.instObj C dx) /\
   ∃mA,h.Ns1 dx mA/\(∀f,fC (fs.lookup f) (mA f))/\PySem.Within mA (fs.map (·.1))
 | .own _=>∃o,h.get? a=some o
 | .xd fs=>∃mA,h.Ns1 a mA/\∀f,fC (fs.lookup f) (mA f)
 | .rng lo hi=>∃t u v,h.get? a=some {cls:=.type "range",data:=.fields #[.int lo t,.int hi u,.int 1 v]}
 | .frz o u=>h.get? a=some o/\zy H h a u
 | .tbl ps=>h.get? a=some {cls:=.none,data:=.fields ps}
 | .met f x=>h.get? a=some (PySem.W.methodObj (.ref f) (.ref x))
 | .ext φ=>φ h/\(∃o,h.get? a=some o)/\∀h1 h2:Heap,φ h1->(∀o,h1.get? a=some o->h2.get? a=some o)->φ h2
noncomputable def HOk(H:Hp)(h:Heap):Prop:=∀a o,H a=some o->zy P w H h a o
end
section
variable{P:av}{w:au}{H H':Hp}{h h':Heap}{a:Addr}{o:HO}
theorem zy.lt(x:zy P w H h a o):a<h.objs.size:=by
 cases o with
 |lst xs=>obtain⟨_,_,_,_,e⟩:=x;exact aC e
 |tup xs=>obtain⟨_,_,_,p⟩:=x;exact p.lt
 |dK kvs=>obtain⟨_,_,_,_,o,_,_,e,_⟩:=x;exact aC e
 |dT kvs=>obtain⟨_,_,_,_,o,_,_,e,_⟩:=x;exact aC e
 |set S n=>obtain⟨o,_,_,_,e,_⟩:=x;exact aC e
 |ins C dx fs=>obtain⟨_,_,_,e,_⟩:=x;exact aC e
 |own y=>obtain⟨_,e⟩:=x;exact aC e
 |xd fs=>obtain⟨_,⟨_,_,_,e,_⟩,_⟩:=x;exact aC e
 |rng lo hi=>obtain⟨_,_,_,e⟩:=x;exact aC e
 |frz ob u=>obtain⟨e,_⟩:=x;exact aC e
 |tbl ps=>exact aC (show h.get? a=some _ from x)
 |met f y=>exact aC (show h.get? a=some _ from x)
 |ext φ=>obtain⟨_,⟨_,e⟩,_⟩:=x;exact aC e
theorem Paired.mapP{α β:Type}{F G:α->β->Prop}:∀{l₁:List α}{l₂:List β},Paired F l₁ l₂->(∀a b,F a b->G a b)->Paired G l₁ l₂
 |_,_,.nil,_=>.nil
 |_,_,.cons r t,f=>.cons (f _ _ r) (Paired.mapP t f)
theorem zy.stay(x:zy P w H h a o)(k:∀b u,(b=a\/H b=some (.own a))->h.get? b=some u->h'.get? b=some u)
  (ho:∀b,H b=some (.own a)->H' b=some (.own a)) (ht:∀b xs,H b=some (.tup xs)->H' b=some (.tup xs)):zy P w H' h' a o:=by
 induction o with
 |lst xs=>obtain⟨z,its,n,r,e⟩:=x;exact⟨z,its,n,r,k _ _ (.inl rfl) e⟩
 |tup xs=>obtain⟨z,its,r,ob,e,c⟩:=x;exact⟨z,its,r,ob,k _ _ (.inl rfl) e,c⟩
 |dK kvs=>obtain⟨z,y,vs,r,ob,es,ep,e,c⟩:=x;exact⟨z,y,vs,r,ob,es,ep,k _ _ (.inl rfl) e,c⟩
 |dT kvs=>
  obtain⟨z,y,xs,r,ob,es,ep,e,c⟩:=x;exact⟨z,y,xs,Paired.mapP r λp q z=>⟨z.1,ht _ _ z.2.1,z.2.2⟩,ob,es,ep,k _ _ (.inl rfl) e,c⟩
 |set S n=>obtain⟨ob,es,ep,t,e,c⟩:=x;exact⟨ob,es,ep,t,k _ _ (.inl rfl) e,c⟩
 |ins C dx fs=>
  obtain⟨d,z,ne,e,mA,⟨od,es,ep,e2,c⟩,r⟩:=x;exact⟨ho _ d,z,ne,k _ _ (.inl rfl) e,mA,⟨od,es,ep,k _ _ (.inr d) e2,c⟩,r⟩
 |own y=>obtain⟨ob,e⟩:=x;exact⟨ob,k _ _ (.inl rfl) e⟩
 |xd fs=>obtain⟨mA,⟨od,es,ep,e,c⟩,r⟩:=x;exact⟨mA,⟨od,es,ep,k _ _ (.inl rfl) e,c⟩,r⟩
 |rng lo hi=>obtain⟨t,u,v,e⟩:=x;exact⟨t,u,v,k _ _ (.inl rfl) e⟩
 |frz ob u ih=>obtain⟨e,q⟩:=x;exact⟨k _ _ (.inl rfl) e,ih q⟩
 |tbl ps=>
  have e:h.get? a=some {cls:=.none,data:=.fields ps}:=x;show h'.get? a=some {cls:=.none,data:=.fields ps};exact k a _ (.inl rfl) e
 |met f y=>
  have e:h.get? a=some (PySem.W.methodObj (.ref f) (.ref y)):=x;show h'.get? a=some (PySem.W.methodObj (.ref f) (.ref y));exact k a _ (.inl rfl) e
 |ext φ=>obtain⟨p,⟨o,e⟩,st⟩:=x;exact⟨st _ _ p λo q=>k _ _ (.inl rfl) q,⟨o,k _ _ (.inl rfl) e⟩,st⟩
theorem HOk.lt(x:HOk P w H h)(e:H a=some o):a<h.objs.size:=(x a o e).lt
theorem HOk.fresh(x:HOk P w H h)(e:h.objs.size<=a):H a=none:=by
 cases q:H a with
 |none=>rfl
 |some u=>exact absurd (aY (x.lt q) e) (bh _)
theorem HOk.kept(x:HOk P w H h)(k:∀b u,h.get? b=some u->h'.get? b=some u):HOk P w H h':=λa o e=>
 (x a o e).stay (λb u _ q=>k b u q) (λ_ q=>q) λ_ _ q=>q
theorem HOk.laid(x:HOk P w H h)(k:∀b u,h.get? b=some u->h'.get? b=some u)(hp:h.objs.size<=a)(new:zy P w (upd H a o) h' a o):HOk P w (upd H a o) h':=λb u e=>by
 have hn:=x.fresh hp;by_cases hb:b=a
 ·subst hb;rw[zp]at e;cases e;exact new
 ·rw[qg hb]at e;exact(x b u e).stay (λc v _ q=>k c v q) (λc q=>by rw[qg (fF q hn)];exact q) λc xs q=>by rw[qg (fF q hn)];exact q
end
noncomputable def Rd(H:Hp)(a:Addr)(u:HO):Prop:=H a=some u\/∃o,H a=some (.frz o u)
theorem Rd.of{H:Hp}{a:Addr}{u:HO}(h:H a=some u):Rd H a u:=.inl h
theorem Rd.ok{P:av}{w:au}{H:Hp}{h:Heap}{a:Addr}{u:HO}(r:Rd H a u)(x:HOk P w H h):zy P w H h a u:=by
 rcases r with r|⟨o,r⟩
 ·exact x a u r
 ·obtain⟨_,q⟩:=x a _ r;exact q
noncomputable def Mut:Option HO->Prop
 |some (.lst _)=>True
 |some (.dK _)=>True
 |some (.dT _)=>True
 |some (.set _ _)=>True
 |some (.ins _ _ _)=>True
 |some (.ext _)=>True
 |_=>False
section
variable{P:av}{w:au}{H:Hp}{h h':Heap}{x e:Addr}{o':HO}
theorem HOk.write(ok:HOk P w H h)(mu:Mut (H x))(he:e=x\/H e=some (.own x))(k:∀b u,b≠e->h.get? b=some u->h'.get? b=some u)(heo:∃u,h'.get? e=some u)
  (new:zy P w (upd H x o') h' x o'):HOk P w (upd H x o') h':=λb u q=>by
 have nown:∀c y,H c=some (.own y)->c≠x:=λc y r z=>by subst z;rw[r]at mu;exact mu
 have ntup:∀c xs,H c=some (.tup xs)->c≠x:=λc xs r z=>by subst z;rw[r]at mu;exact mu
 by_cases hb:b=x
 ·subst hb;rw[zp]at q;cases q;exact new
 ·rw[qg hb]at q;by_cases hbe:b=e
  ·have q':H b=some (.own x):=by
    rcases he with z|z
    ·exact absurd (hbe.trans z) hb
    ·rw[hbe];exact z
   rw[q]at q';cases q';obtain⟨v,hv⟩:=heo;exact⟨v,by rw[hbe];exact hv⟩
  ·refine(ok b u q).stay (λc v hc r=>k c v ?_ r) (λc r=>by rw[qg (nown c b r)];exact r) λc xs r=>by rw[qg (ntup c xs r)];exact r
   rcases hc with rfl|hc
   ·exact hbe
   ·rintro rfl;rcases he with z|z
    ·exact nown c b hc z
    ·rw[hc]at z;cases z;exact hb rfl
end
structure Un(fs ex:List Addr)(H H':Hp)(h h':Heap):Prop where
 keep:∀b o,h.get? b=some o->H b=none->b∉fs->b∉ex->h'.get? b=some o
 slot:∀b o,h.get? b=some o->H b=none->b∈fs->b∉ex->∃sl,h'.get? b=some {o with slots:=sl}
 free:∀b o,h.get? b=some o->H b=none->b∉ex->H' b=none
 there:∀b o,h.get? b=some o->b∉ex->∃o',h'.get? b=some o'
 tups:∀b xs,H b=some (.tup xs)->H' b=some (.tup xs)
 frzs:∀b o u,H b=some (.frz o u)->H' b=some (.frz o u)
 tbls:∀b ps,H b=some (.tbl ps)->∃more,H' b=some (.tbl (ps++more))
section
variable{fs fs' ex ex':List Addr}{H H1 H2:Hp}{h h1 h2 h':Heap}{a x e:Addr}{o:HO}
theorem Un.any(u:Un fs ex H H1 h h1){b:Addr}{ob:Obj}(q:h.get? b=some ob)(n:H b=none)(hx:b∉ex):∃sl,h1.get? b=some {ob with slots:=sl}:=by
 by_cases hb:b∈fs
 ·exact u.slot b ob q n hb hx
 ·exact⟨ob.slots,u.keep b ob q n hb hx⟩
theorem Un.kept(k:∀b u,h.get? b=some u->h'.get? b=some u):Un fs ex H H h h':=
 ⟨λb ob q _ _ _=>k b ob q,λb ob q _ _ _=>⟨ob.slots,k b ob q⟩,λ_ _ _ n _=>n,λb ob q _=>⟨ob,k b ob q⟩,λ_ _ q=>q,λ_ _ _ q=>q,λ_ ps q=>⟨#[],by rw[q];simp⟩⟩
theorem Un.refl:Un fs ex H H h h:=Un.kept λ_ _ q=>q
theorem Un.laid(k:∀b u,h.get? b=some u->h'.get? b=some u)(hp:h.objs.size<=a)(hn:H a=none):Un fs ex H (upd H a o) h h' where
 keep:=λb u q _ _ _=>k b u q
 slot:=λb u q _ _ _=>⟨u.slots,k b u q⟩
 free:=λb u q n _=>by rw[qg (aS (aY (aC q) hp))];exact n
 there:=λb u q _=>⟨u,k b u q⟩
 tups:=λb xs q=>by rw[qg (fF q hn)];exact q
 frzs:=λb u xs q=>by rw[qg (fF q hn)];exact q
 tbls:=λb ps q=>⟨#[],by rw[qg (fF q hn),q];simp⟩
theorem Un.write(mu:Mut (H x))(he:e=x\/H e=some (.own x))(k:∀b u,b≠e->h.get? b=some u->h'.get? b=some u)(heo:∃u,h'.get? e=some u):Un fs ex H (upd H x o) h h':=by
 have hx:∀b,H b=none->b≠x:=λb n z=>by subst z;rw[n]at mu;exact mu
 have hb:∀b,H b=none->b≠e:=λb n z=>by
  subst z;rcases he with r|r
  ·exact hx b n r
  ·rw[n]at r;cases r
 have hm:∀b u,H b=some u->¬ Mut (some u)->b≠x:=λb u q nm z=>by subst z;rw[q]at mu;exact nm mu
 refine⟨λb u q n _ _=>k b u (hb b n) q,λb u q n _ _=>⟨u.slots,k b u (hb b n) q⟩,λb u q n _=>by rw[qg (hx b n)];exact n,λb u q _=>?_,
  λb xs q=>by rw[qg (hm b _ q λz=>z)];exact q,λb u xs q=>by rw[qg (hm b _ q λz=>z)];exact q,λb ps q=>⟨#[],by rw[qg (hm b _ q λz=>z),q];simp⟩⟩
 by_cases hbe:b=e
 ·subst hbe;exact heo
 ·exact⟨u,k b u hbe q⟩
end
noncomputable def trk(h:Heap)(H:Hp):List Addr:=(aV h.objs.size).filter λa=>(H a).isSome
noncomputable def dq(h:Heap)(H:Hp):Heap:=PySem.W.hideAll h (trk h H)
theorem s_(h:Heap)(H:Hp):(dq h H).objs.size=h.objs.size:=PySem.W.hideAll_size _ _
theorem u9{h:Heap}{H:Hp}{b:Addr}{o:Obj}(e:h.get? b=some o)(n:H b=none):(dq h H).get? b=some o:=
 cJ _ e λhm=>by
  have q:(H b).isSome=true:=(List.mem_filter.mp hm).2;rw[n]at q;simp at q
theorem Al{h:Heap}{H:Hp}{b:Addr}{o:Obj}(e:(dq h H).get? b=some o):h.get? b=some o/\H b=none:=by
 have e':h.get? b=some o:=PySem.W.of_hideAll (trk h H) e;refine⟨e',?_⟩;cases q:H b with
 |none=>rfl
 |some x=>
  have hm:b∈trk h H:=List.mem_filter.mpr ⟨List.mem_range.mpr (aC e'),by simp[q]⟩;have z:(dq h H).get? b=none:=PySem.W.hideAll_none (trk h H) hm;rw[z]at e;cases e
noncomputable def fU(g h:Heap)(L:Addr):List (Addr×Obj):=(aV h.objs.size).filterMap λa=>if a=L\/(g.get? a).isSome=true then none else (h.get? a).map λo=>(a,o)
theorem fo{g h:Heap}{L a:Addr}{o:Obj}(h1:a≠L)(h2:g.get? a=none)(h3:h.get? a=some o):(a,o)∈fU g h L:=
 List.mem_filterMap.mpr ⟨a,List.mem_range.mpr (aC h3),by simp[h1,h2,h3]⟩
theorem oE{g h:Heap}{L:Addr}{p:Addr×Obj}(hp:p∈fU g h L):p.1≠L/\g.get? p.1=none/\h.get? p.1=some p.2:=by
 obtain⟨b,_,e⟩:=List.mem_filterMap.mp hp;split at e
 ·cases e
 ·rename_i hn
  cases q:h.get? b with
  |none=>rw[q]at e;simp at e
  |some u=>
   rw[q]at e;simp only[Option.map_some,bN]at e;subst e;refine⟨λz=>hn (.inl z),?_,q⟩;show g.get? b=none;cases r:g.get? b with
   |none=>rfl
   |some v=>exact(hn (.inr (by simp[r]))).elim
noncomputable def rest(g h:Heap)(L d:Addr):List (Addr×Obj):=(fU g h L).filter λp=>decide (p.1≠d)
theorem ng{g h:Heap}{L:Addr}:News g L h (fU g h L):=λp hp=>let ⟨a,b,c⟩:=oE hp;⟨c,a,b⟩
structure Mod(K:aq)(mg:Str->Option ae)(base:Heap):Prop where
 kin:K.In base
 glob:base.Ns ak mg
 blt:∃mb,base.Ns builtinsNs mb/\∀x:Str,x≠"__name__"->mb x=bx x
 nolimit:base.NoLimit
structure Cx where
 prog:av
 w:au
 K:aq
 mg:Str->Option ae
 base:Heap
 A:aw
 N:List Str
 s₀:af
 H₀:Hp
 env:Env
 outer:List Env
 stack:List Env
 ex:List Addr
 fn:Str->Bool
 calm:Bool
 pn:List (Addr×Obj)
 xe:ae->af->Prop
noncomputable def frs(l:List Env):List Addr:=l.filterMap (·.frame)
abbrev Cx.fs(X:Cx):List Addr:=frs X.outer
noncomputable def eQ(sc:aN)(x:Str):Prop:=sc.names.lookup x=some .local\/sc.names.lookup x=some .cell\/sc.names.lookup x=some .free
noncomputable def Loc(sc:aN)(x:Str):Prop:=sc.names.lookup x=some .local\/sc.names.lookup x=some .cell
noncomputable def Look(env:Env)(h:Heap)(m:Str->Option ae)(x:Str)(u:ae):Prop:=
 (env.kindOf x=some .local/\m x=some u)\/((env.kindOf x=some .cell\/env.kindOf x=some .free)/\∃c,env.cells.lookup x=some c/\h.IsCell c (some u))
structure Cx.Ok(X:Cx):Prop where
 mod:Mod X.K X.mg X.base
 kind:X.env.scope.kind=.function
 glob:X.env.globals=ak
 blt:X.env.builtins=builtinsNs
 above:X.s₀.heap.objs.size<=X.env.locals
 inj:∀x y c,X.env.cells.lookup x=some c->X.env.cells.lookup y=some c->x=y
 has:∀x,(X.env.kindOf x=some .cell\/X.env.kindOf x=some .free)->∃c,X.env.cells.lookup x=some c
 cab:∀x c,X.fn x=true->X.env.cells.lookup x=some c->X.s₀.heap.objs.size<=c
 hd:X.calm=true->X.A.handled=none
 frames:X.A.frames=some X.stack
 stk:X.stack=X.outer\/(X.stack=X.env::X.outer/\X.env.frame=some X.env.locals)
 exf:∀b∈X.ex,b≠X.env.locals/\∀x c,X.env.cells.lookup x=some c->c≠b
 bs:∀b o,X.base.get? b=some o->X.s₀.heap.get? b=some o/\X.H₀ b=none
 bsz:X.base.objs.size<=X.s₀.heap.objs.size
 noex:∀b o,X.base.get? b=some o->b∉X.ex
 exfs:∀b∈X.ex,b∉X.fs
 funs:X.s₀.heap.FunFrames X.base X.outer
 frf:∀b∈X.fs,X.H₀ b=none
structure Inv(X:Cx)(pins:List (Addr×Obj))(σ:List (Option V))(H:Hp)(s:af):Prop where
 ok:X.Ok
 os:s.os=X.s₀.os
 bare:AllBare s.gens
 base:Un X.fs X.ex X.H₀ H X.s₀.heap s.heap
 loc:∃m,s.heap.Ns X.env.locals m/\∀(i:Nat) (x:Str) (v:V),X.N[i]? = some x->σ[i]? = some (some v)->eQ X.env.scope x->∃u,RelV v u/\Look X.env s.heap m x u
 cell:∀x c,X.env.cells.lookup x=some c->∃v,s.heap.IsCell c v
 free:H X.env.locals=none
 freeC:∀x c,X.env.cells.lookup x=some c->H c=none
 pin:∀p∈X.pn++pins,s.heap.get? p.1=some p.2/\H p.1=none/\p.1≠X.env.locals/\p.1∉X.fs/\∀v,p.2.data≠.cell v
 hok:HOk X.prog X.w H s.heap
 len:σ.length=X.N.length
section
variable{X:Cx}{pins:List (Addr×Obj)}{σ:List (Option V)}{H H':Hp}{s:af}{h':Heap}
theorem Cx.Ok.nofr(ok:X.Ok){b:Addr}{o:Obj}(e:X.base.get? b=some o):b∉X.fs:=λhb=>by
 have:=(ok.funs.mem hb).1;rw[e]at this;cases this
theorem Inv.bs(I:Inv X pins σ H s):∀b o,X.base.get? b=some o->s.heap.get? b=some o/\H b=none:=λb o e=>
 ⟨I.base.keep b o (I.ok.bs b o e).1 (I.ok.bs b o e).2 (I.ok.nofr e) (I.ok.noex b o e),I.base.free b o (I.ok.bs b o e).1 (I.ok.bs b o e).2 (I.ok.noex b o e)⟩
theorem Inv.bk(I:Inv X pins σ H s):∀b o,X.base.get? b=some o->s.heap.get? b=some o:=λb o e=>(I.bs b o e).1
theorem Inv.mod(I:Inv X pins σ H s):Mod X.K X.mg X.base:=I.ok.mod
theorem Inv.kIn(I:Inv X pins σ H s):X.K.In s.heap:=I.ok.mod.kin.keeps I.bk
theorem Inv.nolimit(I:Inv X pins σ H s):s.heap.NoLimit:=I.ok.mod.nolimit.keeps I.bk
theorem Inv.fr(I:Inv X pins σ H s):∃m,Fr X.base X.env.locals s.heap m:=
 let ⟨m,hn,_⟩:=I.loc
 ⟨m,hn,I.bk,aZ I.ok.bsz I.ok.above⟩
theorem Inv.lt(I:Inv X pins σ H s):X.env.locals<s.heap.objs.size:=let ⟨_,hn,_⟩:=I.loc;hn.lt
theorem Inv.sz(I:Inv X pins σ H s):X.s₀.heap.objs.size<=s.heap.objs.size:=aZ I.ok.above (Nat.le_of_lt I.lt)
theorem Inv.nofs(I:Inv X pins σ H s){a:Addr}(h:s.heap.objs.size<=a):a∉X.fs:=λhb=>by
 obtain⟨_,o,ho,_⟩:=I.ok.funs.mem hb;exact absurd (aY (aC ho) (aZ I.sz h)) (bh _)
theorem Inv.cne(I:Inv X pins σ H s):∀x c,X.env.cells.lookup x=some c->c≠X.env.locals:=λx c e z=>by
 obtain⟨v,o,ho,hd⟩:=I.cell x c e;obtain⟨m,⟨o',es,ep,ho',hd',_⟩,_⟩:=I.loc;rw[z,ho']at ho;cases ho;rw[hd']at hd;cases hd
theorem Inv.funs(I:Inv X pins σ H s):s.heap.FunFrames X.base X.outer:=by
 have all:∀(l:List Env),(∀b∈frs l,b∈X.fs)->X.s₀.heap.FunFrames X.base l->s.heap.FunFrames X.base l:=by
  intro l
  induction l with
  |nil=>intro _ _;trivial
  |cons env r ih=>
   intro hs hl;obtain⟨hk,⟨L,o,hf,hn,ho,hd⟩,hr⟩:=hl;have hL:L∈X.fs:=hs L (by unfold frs;rw[List.filterMap_cons,hf];exact aL);obtain⟨sl,e⟩:=I.base.slot L o ho (I.ok.frf L hL) hL λz=>I.ok.exfs L z hL
   exact⟨hk,⟨L,_,hf,hn,e,hd⟩,ih (λb hb=>hs b (by unfold frs;rw[List.filterMap_cons,hf];exact aI _ hb)) hr⟩
 exact all X.outer (λ_ hb=>hb) I.ok.funs
theorem Inv.stack(I:Inv X pins σ H s):s.heap.FunFrames X.base X.stack:=by
 rcases I.ok.stk with e|⟨e,hf⟩
 ·rw[e];exact I.funs
 ·rw[e];obtain⟨m,hn,_⟩:=I.loc;refine .cons (by rw[I.ok.kind];decide) hf hn ?_ I.funs;exact Heap.get?_none_of_le (aZ I.ok.bsz I.ok.above)
theorem Inv.stkSub(I:Inv X pins σ H s):∀b∈frs X.stack,b∈X.env.locals::X.fs:=λb hb=>by
 rcases I.ok.stk with e|⟨e,hf⟩
 ·rw[e]at hb;exact aI _ hb
 ·rw[e]at hb;unfold frs at hb;rw[List.filterMap_cons,hf]at hb;exact hb
theorem Inv.stkFree(I:Inv X pins σ H s):∀b∈frs X.stack,H b=none:=λb hb=>by
 rcases aG.mp (I.stkSub b hb)with e|hb
 ·rw[e];exact I.free
 ·obtain⟨_,o,ho,_⟩:=I.ok.funs.mem hb;exact I.base.free b o ho (I.ok.frf b hb) λz=>I.ok.exfs b z hb
theorem Inv.step{g':Array GenState}{t':Nat}{d':Drawn}{ch:List Addr}(I:Inv X pins σ H s)
  (hch:∀b∈ch,(b∈X.ex\/X.s₀.heap.objs.size<=b)/\b≠X.env.locals/\(∀x c,X.env.cells.lookup x=some c->c≠b)/\∀p∈X.pn++pins,p.1≠b)
  (keep:∀b o,b≠X.env.locals->b∉X.fs->b∉ch->s.heap.get? b=some o->H b=none->h'.get? b=some o)
  (slot:∀b o,b≠X.env.locals->b∈X.fs->b∉ch->s.heap.get? b=some o->H b=none->∃sl,h'.get? b=some {o with slots:=sl}) (free:∀b o,b∉ch->s.heap.get? b=some o->H b=none->H' b=none)
  (there:∀b o,b∉ch->s.heap.get? b=some o->∃o',h'.get? b=some o')
  (tups:∀b xs,H b=some (.tup xs)->H' b=some (.tup xs)) (frzs:∀b o u,H b=some (.frz o u)->H' b=some (.frz o u)) (tbls:∀b ps,H b=some (.tbl ps)->∃more,H' b=some (.tbl (ps++more)))
  (ns:∀m,s.heap.Ns X.env.locals m->h'.Ns X.env.locals m) (hok:HOk X.prog X.w H' h') (hg:AllBare g') :
  Inv X pins σ H' {s with heap:=h',gens:=g',drawn:=d',toks:=t'}:=by
 have neL:∀b o,X.s₀.heap.get? b=some o->b≠X.env.locals:=λb o e=>aS (aY (aC e) I.ok.above)
 have neC:∀b o,X.s₀.heap.get? b=some o->b∉X.ex->b∉ch:=λb o e hx hb=>by
  rcases(hch b hb).1 with z|z
  ·exact hx z
  ·exact absurd (aY (aC e) z) (bh _)
 have cellK:∀x c,X.env.cells.lookup x=some c->∀v,s.heap.IsCell c v->h'.IsCell c v:=λx c e v ⟨o,ho,hd⟩=>by
  have nch:c∉ch:=λz=>(hch c z).2.2.1 x c e rfl
  by_cases hc:c∈X.fs
  ·obtain⟨sl,q⟩:=slot c o (I.cne x c e) hc nch ho (I.freeC x c e);exact⟨_,q,hd⟩
  ·exact⟨o,keep c o (I.cne x c e) hc nch ho (I.freeC x c e),hd⟩
 refine⟨I.ok,I.os,hg,⟨λb o e n hb hx=>?_,λb o e n hb hx=>?_,λb o e n hx=>?_,λb o e hx=>?_,λb xs e=>tups b xs (I.base.tups b xs e),λb o xs e=>frzs b o xs (I.base.frzs b o xs e),λb ps e=>?_⟩,?_,λx c e=>?_,?_,λx c e=>?_,λp hp=>?_,hok,I.len⟩
 ·exact keep b o (neL b o e) hb (neC b o e hx) (I.base.keep b o e n hb hx) (I.base.free b o e n hx)
 ·obtain⟨sl,e1⟩:=I.base.slot b o e n hb hx;obtain⟨sl',e2⟩:=slot b _ (neL b o e) hb (neC b o e hx) e1 (I.base.free b o e n hx);exact⟨sl',e2⟩
 ·obtain⟨o',e1⟩:=I.base.there b o e hx;exact free b o' (neC b o e hx) e1 (I.base.free b o e n hx)
 ·obtain⟨o',e1⟩:=I.base.there b o e hx;exact there b o' (neC b o e hx) e1
 ·obtain⟨m1,e1⟩:=I.base.tbls b ps e;obtain⟨m2,e2⟩:=tbls b _ e1;exact⟨m1++m2,by rw[e2,Array.append_assoc]⟩
 ·obtain⟨m,hn,hl⟩:=I.loc;refine⟨m,ns m hn,λi x v e1 e2 e3=>?_⟩;obtain⟨u,r,l⟩:=hl i x v e1 e2 e3;refine⟨u,r,?_⟩;rcases l with l|⟨k,c,e,z⟩
  ·exact .inl l
  ·exact .inr ⟨k,c,e,cellK x c e _ z⟩
 ·obtain⟨v,z⟩:=I.cell x c e;exact⟨v,cellK x c e v z⟩
 ·obtain⟨m,⟨o,_,_,ho,_⟩,_⟩:=I.loc;exact free _ o (λz=>(hch _ z).2.1 rfl) ho I.free
 ·obtain⟨v,o,ho,hd⟩:=I.cell x c e;exact free c o (λz=>(hch c z).2.2.1 x c e rfl) ho (I.freeC x c e)
 ·obtain⟨e,n,ne,nf,d⟩:=I.pin p hp;have nch:p.1∉ch:=λz=>(hch p.1 z).2.2.2 p hp rfl
  exact⟨keep p.1 p.2 ne nf nch e n,free p.1 p.2 nch e n,ne,nf,d⟩
theorem Inv.un{t':Nat}(I:Inv X pins σ H s)(u:Un X.fs [] H H' s.heap h')(hok:HOk X.prog X.w H' h'):Inv X pins σ H' {s with heap:=h',toks:=t'}:=by
 obtain⟨m,⟨o,es,ep,ho,r⟩,_⟩:=id I.loc;obtain⟨sl,hL⟩:=u.any ho I.free (by simp);exact I.step (g':=s.gens) (d':=s.drawn) (ch:=[]) (λ_ z=>nomatch z) (λb o _ hb _ e n=>u.keep b o e n hb (by simp)) (λb o _ hb _ e n=>u.slot b o e n hb (by simp)) (λb o _ e n=>u.free b o e n (by simp)) (λb o _ e=>u.there b o e (by simp)) u.tups u.frzs u.tbls (λm' hm=>by
  obtain⟨o',es',ep',ho',r'⟩:=hm;rw[ho]at ho';cases ho';exact⟨_,es',ep',hL,r'⟩) hok I.bare
theorem Inv.call{g':Array GenState}{t':Nat}{d':Drawn}{ch:List Addr}(I:Inv X pins σ H s)(u:Un (frs X.stack) ch H H' s.heap h')(hok:HOk X.prog X.w H' h')(hg:AllBare g')
  (hch:∀b∈ch,(b∈X.ex\/X.s₀.heap.objs.size<=b)/\b≠X.env.locals/\(∀x c,X.env.cells.lookup x=some c->c≠b)/\∀p∈X.pn++pins,p.1≠b) :
  Inv X pins σ H' {s with heap:=h',gens:=g',drawn:=d',toks:=t'}:=by
 obtain⟨m,⟨o,es,ep,ho,r⟩,_⟩:=id I.loc;obtain⟨sl,hL⟩:=u.any ho I.free λz=>(hch _ z).2.1 rfl
 exact I.step (ch:=ch) hch (λb o hL hb hc e n=>u.keep b o e n (λz=>(aG.mp (I.stkSub b z)).elim hL hb) hc) (λb o _ _ hc e n=>u.any e n hc) (λb o hc e n=>u.free b o e n hc) (λb o hc e=>u.there b o e hc) u.tups u.frzs u.tbls (λm' hm=>by
  obtain⟨o',es',ep',ho',r'⟩:=hm;rw[ho]at ho';cases ho';exact⟨_,es',ep',hL,r'⟩) hok hg
theorem Inv.turned{t':Nat}{it:Addr}(I:Inv X pins σ H s)(k:∀b o,b≠it->s.heap.get? b=some o->h'.get? b=some o)(hn:H it=none)(hL:it≠X.env.locals)
  (h1:it∈X.ex\/X.s₀.heap.objs.size<=it) (h2:∀x c,X.env.cells.lookup x=some c->c≠it) (h3:∀p∈X.pn++pins,p.1≠it):Inv X pins σ H {s with heap:=h',toks:=t'}:=by
 have nit:∀b u,H b=some u->b≠it:=λb u e z=>by rw[z,hn]at e;cases e
 refine I.step (g':=s.gens) (d':=s.drawn) (ch:=[it]) (λb hb=>?_) (λb o _ _ hc e _=>k b o (λz=>hc (by simp[z])) e) (λb o _ _ hc e _=>⟨o.slots,k b o (λz=>hc (by simp[z])) e⟩) (λ_ _ _ _ n=>n)
  (λb o hc e=>⟨o,k b o (λz=>hc (by simp[z])) e⟩) (λ_ _ e=>e) (λ_ _ _ e=>e) (λb ps e=>⟨#[],by rw[e];simp⟩) (λm hm=>?_) (λb u e=>?_) I.bare
 ·have e:b=it:=by simpa using hb
  subst e;exact⟨h1,hL,h2,h3⟩
 ·obtain⟨o,es,ep,ho,r⟩:=hm;exact⟨o,es,ep,k _ o (Ne.symm hL) ho,r⟩
 ·refine(I.hok b u e).stay (λc v hc q=>k c v ?_ q) (λ_ q=>q) λ_ _ q=>q
  rcases hc with z|z
  ·rw[z];exact nit b u e
  ·exact nit c _ z
theorem Inv.tok(I:Inv X pins σ H s)(t:Nat):Inv X pins σ H {s with toks:=t}:=I.un (h':=s.heap) (t':=t) Un.refl I.hok
theorem Inv.kept{t':Nat}(I:Inv X pins σ H s)(k:∀b u,s.heap.get? b=some u->h'.get? b=some u):Inv X pins σ H {s with heap:=h',toks:=t'}:=I.un (Un.kept k) (I.hok.kept k)
theorem Inv.laid{a:Addr}{o:HO}{t':Nat}(I:Inv X pins σ H s)(k:∀b u,s.heap.get? b=some u->h'.get? b=some u)(hp:s.heap.objs.size<=a)(new:zy X.prog X.w (upd H a o) h' a o) :
  Inv X pins σ (upd H a o) {s with heap:=h',toks:=t'}:=I.un (Un.laid k hp (I.hok.fresh hp)) (I.hok.laid k hp new)
theorem Inv.write{x e:Addr}{o:HO}{t':Nat}(I:Inv X pins σ H s)(mu:Mut (H x))(he:e=x\/H e=some (.own x))(k:∀b u,b≠e->s.heap.get? b=some u->h'.get? b=some u)(heo:∃u,h'.get? e=some u)
  (new:zy X.prog X.w (upd H x o) h' x o):Inv X pins σ (upd H x o) {s with heap:=h',toks:=t'}:=I.un (Un.write mu he k heo) (I.hok.write mu he k heo new)
theorem Inv.pins_of{pins':List (Addr×Obj)}(I:Inv X pins σ H s)(h:∀p∈pins',s.heap.get? p.1=some p.2/\H p.1=none/\p.1≠X.env.locals/\p.1∉X.fs/\∀v,p.2.data≠.cell v):Inv X pins' σ H s:=
 ⟨I.ok,I.os,I.bare,I.base,I.loc,I.cell,I.free,I.freeC,λp hp=>(List.mem_append.mp hp).elim (λz=>I.pin p (List.mem_append_left _ z)) (h p),I.hok,I.len⟩
theorem mV{N:List Str}(hN:N.Nodup){i j:Nat}{x:Str}(a:N[i]? = some x)(b:N[j]? = some x):i=j:=by
 obtain⟨h1,e1⟩:=List.getElem?_eq_some_iff.mp a;obtain⟨h2,e2⟩:=List.getElem?_eq_some_iff.mp b;exact(List.getElem_inj hN).mp (e1.trans e2.symm)
theorem kv{M:Model}{A:aw}{E:ae->af->Prop}{i:Nat}{x:Str}{v:V}{u:ae}{Q:Unit->af->Prop}(I:Inv X pins σ H s)(hN:X.N.Nodup)(hi:X.N[i]? = some x)(hx:Loc X.env.scope x)(r:RelV v u)
  (h:∀s',Inv X pins (σ.set i (some v)) H s'->(∃a,Heap.SameBut a s.heap s'.heap/\(a=X.env.locals\/X.env.cells.lookup x=some a))->Q () s') (hf:X.fn x=true\/X.env.scope.names.lookup x=some .local:=by first|exact .inl rfl|exact .inr rfl|assumption):ai M A (storeName X.env x u) Q E s:=by
 obtain⟨m,hn,hl⟩:=id I.loc;have hcls:(X.env.scope.kind==.class||(X.env.scope.kind==.module&&X.env.locals != X.env.globals))=false:=by rw[I.ok.kind];rfl
 have hiσ:i<σ.length:=by rw[I.len];exact(List.getElem?_eq_some_iff.mp hi).1
 have cne:=I.cne;have tracked:∀{a:Addr}{h':Heap},(∃o,s.heap.get? a=some o/\H a=none)->Heap.SameBut a s.heap h'->HOk X.prog X.w H h':=λ{a h'} ha hs b ob e=>by
  obtain⟨_,_,hfree⟩:=ha;refine(I.hok b ob e).stay (λc w' hc q=>(hs.2 c ?_).trans q) (λ_ q=>q) λ_ _ q=>q
  rintro rfl;rcases hc with rfl|hc
  ·rw[hfree]at e;cases e
  ·rw[hfree]at hc;cases hc
 rcases hx with hk|hk
 ·refine wpAny_storeName_local hk hn (λh' hn' hs=>?_) hcls;obtain⟨oL,_,_,hoL,_⟩:=id hn;refine h _ ⟨I.ok,I.os,I.bare,⟨λb o e n hb hx=>?_,λb o e n hb hx=>?_,I.base.free,λb o e hx=>?_,I.base.tups,I.base.frzs,I.base.tbls⟩,⟨_,hn',λj y v' e1 e2 e3=>?_⟩,λy c e=>?_,I.free,I.freeC,λp hp=>?_,tracked ⟨oL,hoL,I.free⟩ hs,by simpa using I.len⟩ ⟨_,hs,.inl rfl⟩
  ·exact(hs.2 b (aS (aY (aC e) I.ok.above))).trans (I.base.keep b o e n hb hx)
  ·obtain⟨sl,e1⟩:=I.base.slot b o e n hb hx;exact⟨sl,(hs.2 b (aS (aY (aC e) I.ok.above))).trans e1⟩
  ·obtain⟨o',e1⟩:=I.base.there b o e hx;exact⟨o',(hs.2 b (aS (aY (aC e) I.ok.above))).trans e1⟩
  ·by_cases hj:j=i
   ·subst hj;rw[hi]at e1;cases e1;rw[List.getElem?_set_self hiσ]at e2;cases e2;exact⟨u,r,.inl ⟨hk,by simp⟩⟩
   ·rw[List.getElem?_set_ne (Ne.symm hj)]at e2;obtain⟨u',r',q⟩:=hl j y v' e1 e2 e3;refine⟨u',r',?_⟩;rcases q with ⟨k,e⟩|⟨k,c,e,z⟩
    ·refine .inl ⟨k,?_⟩;have:y≠x:=λe=>hj (mV hN e1 (e▸hi))
     simp[this,e]
    ·exact .inr ⟨k,c,e,z.sameBut hs (cne y c e)⟩
  ·obtain⟨w',z⟩:=I.cell y c e;exact⟨w',z.sameBut hs (cne y c e)⟩
  ·obtain⟨e,n,ne,nf,d⟩:=I.pin p hp;exact⟨(hs.2 p.1 ne).trans e,n,ne,nf,d⟩
 ·have hfn:X.fn x=true:=by
   rcases hf with z|z
   ·exact z
   ·rw[z]at hk;cases hk
  obtain⟨c,hc⟩:=I.ok.has x (.inl hk);obtain⟨w',z⟩:=I.cell x c hc;refine wpAny_storeName_cell I.ok.kind hk hc z (λh' hc' hs=>?_);obtain⟨oc,hoc,hocd⟩:=id z;refine h {s with heap:=h'} ⟨I.ok,I.os,I.bare,⟨λb o e n hb hx=>?_,λb o e n hb hx=>?_,I.base.free,λb o e hx=>?_,I.base.tups,I.base.frzs,I.base.tbls⟩,⟨m,hn.sameBut hs (Ne.symm (cne x c hc)),λj y v' e1 e2 e3=>?_⟩,λy c' e=>?_,I.free,I.freeC,λp hp=>?_,tracked ⟨oc,hoc,I.freeC x c hc⟩ hs,by simpa using I.len⟩ ⟨c,hs,.inr hc⟩
  ·exact(hs.2 b (aS (aY (aC e) (I.ok.cab x c hfn hc)))).trans (I.base.keep b o e n hb hx)
  ·obtain⟨sl,e1⟩:=I.base.slot b o e n hb hx;exact⟨sl,(hs.2 b (aS (aY (aC e) (I.ok.cab x c hfn hc)))).trans e1⟩
  ·obtain⟨o',e1⟩:=I.base.there b o e hx;exact⟨o',(hs.2 b (aS (aY (aC e) (I.ok.cab x c hfn hc)))).trans e1⟩
  ·by_cases hj:j=i
   ·subst hj;rw[hi]at e1;cases e1;rw[List.getElem?_set_self hiσ]at e2;cases e2;exact⟨u,r,.inr ⟨.inl hk,c,hc,hc'⟩⟩
   ·rw[List.getElem?_set_ne (Ne.symm hj)]at e2;obtain⟨u',r',q⟩:=hl j y v' e1 e2 e3;refine⟨u',r',?_⟩;rcases q with q|⟨k,c',e,z'⟩
    ·exact .inl q
    ·refine .inr ⟨k,c',e,z'.sameBut hs ?_⟩;rintro rfl;exact hj (mV hN e1 (I.ok.inj _ _ _ e hc▸hi))
  ·by_cases hcc:c'=c
   ·subst hcc;exact⟨_,hc'⟩
   ·obtain⟨w2,z2⟩:=I.cell y c' e;exact⟨w2,z2.sameBut hs hcc⟩
  ·obtain⟨e,n,ne,nf,d⟩:=I.pin p hp;refine⟨(hs.2 p.1 ?_).trans e,n,ne,nf,d⟩;intro q;rw[q,hoc]at e;have q':oc=p.2:=bg e;exact d w' (by rw[<-q'];exact hocd)
theorem iz{M:Model}{A:aw}{E:ae->af->Prop}{i:Nat}{x:Str}{v:V}{u:ae}{Q:Unit->af->Prop}(I:Inv X pins σ H s)(hN:X.N.Nodup)(hi:X.N[i]? = some x)(hx:Loc X.env.scope x)(r:RelV v u)
  (h:∀s',Inv X pins (σ.set i (some v)) H s'->Q () s') (hf:X.fn x=true\/X.env.scope.names.lookup x=some .local:=by first|exact .inl rfl|exact .inr rfl|assumption):ai M A (storeName X.env x u) Q E s:=
 kv I hN hi hx r (λs' I' _=>h s' I') hf
theorem Inv.call'{s':af}{ch:List Addr}(I:Inv X pins σ H s)(ho:s'.os=s.os)(u:Un (frs X.stack) ch H H' s.heap s'.heap)(hok:HOk X.prog X.w H' s'.heap)(hg:AllBare s'.gens)
  (hch:∀b∈ch,(b∈X.ex\/X.s₀.heap.objs.size<=b)/\b≠X.env.locals/\(∀x c,X.env.cells.lookup x=some c->c≠b)/\∀p∈X.pn++pins,p.1≠b):Inv X pins σ H' s':=by
 obtain⟨h',g',d',t',o'⟩:=s';have e:o'=s.os:=ho;subst e;exact I.call (g':=g') (t':=t') (d':=d') u hok hg hch
end
abbrev XK:=ae->Option Addr->Hp->Prop
abbrev St:=List (Option V)
abbrev VK:=V->Hp->Prop
abbrev TE:=St->Hp->VK->Prop
abbrev TT:=St->Hp->(Bool->Hp->Prop)->Prop
abbrev TA:=St->Hp->(List V->Hp->Prop)->Prop
structure Ends where
 nx:St->Hp->Prop
 rt:VK
 bk:St->Hp->Prop:=λ_ _=>False
 ct:St->Hp->Prop:=λ_ _=>False
abbrev TS:=Ends->St->Hp->Prop
noncomputable def EP(X:Cx)(pins:List (Addr×Obj))(σ:St)(Q:VK)(u:ae)(s':af):Prop:=∃v H',Inv X pins σ H' s'/\RelV v u/\Q v H'
noncomputable def TP(X:Cx)(pins:List (Addr×Obj))(σ:St)(Q:Bool->Hp->Prop)(b:Bool)(s':af):Prop:=∃H',Inv X pins σ H' s'/\Q b H'
noncomputable def AP(X:Cx)(pins:List (Addr×Obj))(σ:St)(Q:List V->Hp->Prop)(us:List ae)(s':af):Prop:=∃vs H',Inv X pins σ H' s'/\Vals vs us/\Q vs H'
noncomputable def SP(X:Cx)(pins:List (Addr×Obj))(D:Ends)(f:Flow)(s':af):Prop:=
 match f with
 | .next=>∃σ' H',Inv X pins σ' H' s'/\D.nx σ' H'
 | .brk=>∃σ' H',Inv X pins σ' H' s'/\D.bk σ' H'
 | .cont=>∃σ' H',Inv X pins σ' H' s'/\D.ct σ' H'
 | .ret u=>∃v σ' H',Inv X pins σ' H' s'/\RelV v u/\D.rt v H'
noncomputable def PE(X:Cx)(e:Expr)(t:TE):Prop:=
 ∀(pins:List (Addr×Obj)) (s:af) (σ:St) (H:Hp) (Q:VK),Inv X pins σ H s->t σ H Q->ai (aj X.prog X.w) X.A (eval e X.env) (EP X pins σ Q) X.xe s
noncomputable def PT(X:Cx)(e:Expr)(t:TT):Prop:=
 ∀(pins:List (Addr×Obj)) (s:af) (σ:St) (H:Hp) (Q:Bool->Hp->Prop),Inv X pins σ H s->t σ H Q->ai (aj X.prog X.w) X.A (isTrue e X.env (eval e X.env)) (TP X pins σ Q) X.xe s
noncomputable def PW(X:Cx)(e:Expr)(t:TT):Prop:=
 ∀(whole:Sem ae) (pins:List (Addr×Obj)) (s:af) (σ:St) (H:Hp) (Q:Bool->Hp->Prop),Inv X pins σ H s->t σ H Q->ai (aj X.prog X.w) X.A (isTrue e X.env whole) (TP X pins σ Q) X.xe s
theorem PW.pt{X:Cx}{e:Expr}{t:TT}(h:PW X e t):PT X e t:=h _
noncomputable def PA(X:Cx)(es:List Expr)(t:TA):Prop:=
 ∀(pos:Pos) (pins:List (Addr×Obj)) (s:af) (σ:St) (H:Hp) (Q:List V->Hp->Prop),Inv X pins σ H s->t σ H Q->ai (aj X.prog X.w) X.A (spliced (backTo pos (aH es X.env))) (AP X pins σ Q) X.xe s
noncomputable def PS(X:Cx)(st:Stmt)(t:TS):Prop:=
 ∀(pins:List (Addr×Obj)) (s:af) (σ:St) (H:Hp) (D:Ends),Inv X pins σ H s->t D σ H->ai (aj X.prog X.w) X.A (exec st X.env) (SP X pins D) X.xe s
noncomputable def PSs(X:Cx)(st:List Stmt)(t:TS):Prop:=
 ∀(pins:List (Addr×Obj)) (s:af) (σ:St) (H:Hp) (D:Ends),Inv X pins σ H s->t D σ H->ai (aj X.prog X.w) X.A (execs st X.env) (SP X pins D) X.xe s
theorem thn{α:Type}{t:Sem α}{Q Q':α->af->Prop}{M:Model}{A:aw}{E:ae->af->Prop}{s:af}(h:ai M A t Q E s)(hQ:∀a s,Q a s->Q' a s):ai M A t Q' E s:=bu h hQ λ_ _ x=>x
section
variable{X:Cx}
theorem bin{a b:Expr}{ta tb:TE}(ha:PE X a ta)(hb:PE X b tb){pins:List (Addr×Obj)}{s:af}{σ:St}{H:Hp}{R:V->V->Hp->Prop}(I:Inv X pins σ H s)(h:ta σ H λx H1=>tb σ H1 λy H2=>R x y H2)
  {α:Type}{Q:α->af->Prop}{f:ae->ae->Sem α}
  (hf:∀v u s2 x y H2,Inv X pins σ H2 s2->RelV x v->RelV y u->R x y H2->ai (aj X.prog X.w) X.A (f v u) Q X.xe s2) :
  ai (aj X.prog X.w) X.A (eval a X.env) (λv s₁=>ai (aj X.prog X.w) X.A (eval b X.env) (λu s₂=>ai (aj X.prog X.w) X.A (f v u) Q X.xe s₂) X.xe s₁) X.xe s:=by
 refine thn (ha pins s σ H _ I h) λv s1 ⟨x,H1,I1,r1,q1⟩=>?_
 refine thn (hb pins s1 σ H1 _ I1 q1) λu s2 ⟨y,H2,I2,r2,q2⟩=>?_
 exact hf v u s2 x y H2 I2 r1 r2 q2
noncomputable def fT(i:Nat):TE:=λσ H Q=>∃v,σ[i]? = some (some v)/\Q v H
noncomputable def tC(v:V):TE:=λ_ H Q=>Q v H
theorem gw{i:Nat}{x:Str}{pos:Pos}(hN:X.N[i]? = some x)(hv:eQ X.env.scope x)(hd:(x==("__debug__" : Str))=false:=by decide)(hcd:(x==("__classdict__" : Str))=false:=by decide):PE X (.Name x pos) (fT i):=by
 intro pins s σ H Q I h;obtain⟨v,e,h⟩:=h;obtain⟨m,hn,hl⟩:=I.loc;obtain⟨u,r,l⟩:=hl i x v hN e hv;have fin:EP X pins σ Q u s:=⟨v,H,I,r,h⟩
 rcases l with ⟨hk,hm⟩|⟨hk,c,hc,hcell⟩
 ·exact wpAny_Name (wpAny_loadName_local I.ok.kind hk hn hm fin) hd
 ·rcases hk with hk|hk
  ·exact wpAny_Name (wpAny_loadName_cell I.ok.kind hk hc hcell fin) hd
  ·exact wpAny_Name (wpAny_loadName_free I.ok.kind hk hc hcell fin hcd) hd
theorem pE{i j pos}:PE X (.Constant (.int i) j pos) (tC (.int i)):=λ_ _ _ H _ I h=>wpAny_Constant_int ⟨.int i,H,I.tok _,⟨_,rfl⟩,h⟩
theorem lE{b j pos}:PE X (.Constant (.bool b) j pos) (tC (.bl b)):=λ_ _ _ H _ I h=>Constant_bool ⟨.bl b,H,I,rfl,h⟩
theorem uT{j pos}:PE X (.Constant .none j pos) (tC .non):=λ_ _ _ H _ I h=>Constant_none ⟨.non,H,I,rfl,h⟩
theorem vt{x j pos}:PE X (.Constant (.str x) j pos) (tC (.str x)):=λ_ _ _ H _ I h=>Calls.Constant_str ⟨.str x,H,I.tok _,⟨_,rfl⟩,h⟩
noncomputable def Gl(X:Cx)(x:Str):Prop:=X.env.kindOf x=some .globalImplicit
theorem d_{E:ae->af->Prop}{pins:List (Addr×Obj)}{s:af}{σ:St}{H:Hp}{x:Str}{u:ae}{pos:Pos}{Q:ae->af->Prop}(I:Inv X pins σ H s)(hg:Gl X x)(hm:X.mg x=some u)(h:Q u s)
  (hd:(x==("__debug__" : Str))=false:=by decide):ai (aj X.prog X.w) X.A (eval (.Name x pos) X.env) Q E s:=
 Calls.Name_function_global I.ok.kind hg (Calls.loadGlobal_global (by rw[I.ok.glob];exact I.mod.glob.keeps I.bk) hm h) hd
theorem ez{E:ae->af->Prop}{pins:List (Addr×Obj)}{s:af}{σ:St}{H:Hp}{x:Str}{u:ae}{pos:Pos}{Q:ae->af->Prop}(I:Inv X pins σ H s)(hg:Gl X x)(hm:X.mg x=none)(hv:bx x=some u)(h:Q u s)
  (hn:x≠"__name__":=by decide) (hd:(x==("__debug__" : Str))=false:=by decide):ai (aj X.prog X.w) X.A (eval (.Name x pos) X.env) Q E s:=by
 obtain⟨mb,h1,h2⟩:=I.mod.blt;exact Calls.Name_function_global I.ok.kind hg (Calls.loadGlobal_builtin (by rw[I.ok.glob];exact I.mod.glob.keeps I.bk) hm (by rw[I.ok.blt];exact h1.keeps I.bk) ((h2 x hn).trans hv) h) hd
theorem gJ{x:Str}{v:V}{u:ae}{pos:Pos}(hg:Gl X x)(hm:X.mg x=some u)(r:RelV v u)(hd:(x==("__debug__" : Str))=false:=by decide):PE X (.Name x pos) (tC v):=
 λ_ _ _ H _ I h=>d_ I hg hm ⟨v,H,I,r,h⟩ hd
theorem wZ{x:Str}{v:V}{u:ae}{pos:Pos}(hg:Gl X x)(hm:X.mg x=none)(hv:bx x=some u)(r:RelV v u)(hn:x≠"__name__":=by decide)(hd:(x==("__debug__" : Str))=false:=by decide):PE X (.Name x pos) (tC v):=
 λ_ _ _ H _ I h=>ez I hg hm hv ⟨v,H,I,r,h⟩ hn hd
variable{a b:Expr}{ta tb:TE}{pos:Pos}
variable{tA tB':TT}{rest:List Expr}
noncomputable def ue(t u:TT):TT:=λσ H Q=>t σ H λc H1=>if c=true then u σ H1 Q else Q false H1
noncomputable def tOr(t u:TT):TT:=λσ H Q=>t σ H λc H1=>if c=true then Q true H1 else u σ H1 Q
noncomputable def vM(t:TT):TT:=λσ H Q=>t σ H λc H1=>Q (!c) H1
theorem rA(ha:PT X a tA):PW X (.BoolOp .And [a] pos) tA:=by
 intro wh pins s σ H Q I h;refine isTrue_and (thn (ha pins s σ H Q I h) λc s1 e=>?_);cases c with
 |true=>exact isTrue_and_nil e
 |false=>exact e
theorem xc(ha:PT X a tA):PW X (.BoolOp .Or [a] pos) tA:=by
 intro wh pins s σ H Q I h;refine isTrue_or (thn (ha pins s σ H Q I h) λc s1 e=>?_);cases c with
 |false=>exact isTrue_or_nil e
 |true=>exact e
theorem yM(ha:PT X a tA)(hb:PW X (.BoolOp .And (b::rest) pos) tB'):PW X (.BoolOp .And (a::b::rest) pos) (ue tA tB'):=by
 intro wh pins s σ H Q I h;refine isTrue_and (thn (ha pins s σ H _ I h) λc s1 ⟨H1,I1,q1⟩=>?_);cases c with
 |true=>exact hb wh pins s1 σ H1 Q I1 q1
 |false=>exact⟨H1,I1,q1⟩
theorem uJ(ha:PT X a tA)(hb:PW X (.BoolOp .Or (b::rest) pos) tB'):PW X (.BoolOp .Or (a::b::rest) pos) (tOr tA tB'):=by
 intro wh pins s σ H Q I h;refine isTrue_or (thn (ha pins s σ H _ I h) λc s1 ⟨H1,I1,q1⟩=>?_);cases c with
 |true=>exact⟨H1,I1,q1⟩
 |false=>exact hb wh pins s1 σ H1 Q I1 q1
theorem rg(ha:PT X a tA):PT X (.UnaryOp .Not a pos) (vM tA):=by
 intro pins s σ H Q I h;exact isTrue_not (ha pins s σ H (λc H1=>Q (!c) H1) I h)
noncomputable def vq(ta tb:TE):TE:=λσ H Q=>ta σ H λx H1=>∃c,x=.bl c/\if c=true then tb σ H1 Q else Q (.bl false) H1
noncomputable def p5(ta tb:TE):TE:=λσ H Q=>ta σ H λx H1=>∃c,x=.bl c/\if c=true then Q (.bl true) H1 else tb σ H1 Q
noncomputable def oq(ta:TE):TE:=λσ H Q=>ta σ H λx H1=>∃c,x=.bl c/\Q (.bl (!c)) H1
theorem sV{op}{t:TE}(h:PE X a t):PE X (.BoolOp op [a] pos) t:=λpins s σ H Q I hw=>BoolOp_one (h pins s σ H Q I hw)
theorem sL(ha:PE X a ta)(hb:PE X (.BoolOp .And (b::rest) pos) tb):PE X (.BoolOp .And (a::b::rest) pos) (vq ta tb):=by
 intro pins s σ H Q I h;refine BoolOp_and (thn (ha pins s σ H _ I h) λv s1 ⟨x,H1,I1,r1,q1⟩=>?_);obtain⟨c,rfl,q1⟩:=q1;cases r1;refine bB ?_;cases c with
 |true=>exact hb pins s1 σ H1 Q I1 q1
 |false=>exact⟨.bl false,H1,I1,rfl,q1⟩
theorem sv(ha:PE X a ta)(hb:PE X (.BoolOp .Or (b::rest) pos) tb):PE X (.BoolOp .Or (a::b::rest) pos) (p5 ta tb):=by
 intro pins s σ H Q I h;refine BoolOp_or (thn (ha pins s σ H _ I h) λv s1 ⟨x,H1,I1,r1,q1⟩=>?_);obtain⟨c,rfl,q1⟩:=q1;cases r1;refine bB ?_;cases c with
 |false=>exact hb pins s1 σ H1 Q I1 q1
 |true=>exact⟨.bl true,H1,I1,rfl,q1⟩
theorem Aa(ha:PE X a ta):PE X (.UnaryOp .Not a pos) (oq ta):=by
 intro pins s σ H Q I h;refine UnaryOp_ (thn (ha pins s σ H _ I h) λv s1 ⟨x,H1,I1,r1,q1⟩=>?_);obtain⟨c,rfl,q1⟩:=q1;cases r1;exact not_of (bB ⟨.bl (!c),H1,I1,rfl,q1⟩)
noncomputable def tIf(t:TT)(ta tb:TE):TE:=λσ H Q=>t σ H λc H1=>if c=true then ta σ H1 Q else tb σ H1 Q
theorem AN{c:Expr}(hc:PT X c tA)(ha:PE X a ta)(hb:PE X b tb):PE X (.IfExp c a b pos) (tIf tA ta tb):=by
 intro pins s σ H Q I h;refine wpAny_IfExp (thn (hc pins s σ H _ I h) λd s1 ⟨H1,I1,q1⟩=>?_);cases d with
 |true=>exact ha pins s1 σ H1 Q I1 q1
 |false=>exact hb pins s1 σ H1 Q I1 q1
end
noncomputable def SqL(K:aq)(H:Hp)(a:Addr)(xs:List V):Prop:=
 Rd H a (.lst xs) \/
  ∃(o:Obj) (its:Array ae) (n:Nat),K.lookup a=some o/\o.cls=.type "list"/\o.dict=none/\o.data=.seq its n/\its.size<=aK/\Vals xs its.toList
noncomputable def SqT(K:aq)(H:Hp)(a:Addr)(xs:List V):Prop:=
 Rd H a (.tup xs) \/
  ∃(o:Obj) (its:Array ae) (n:Nat),K.lookup a=some o/\o.cls=.type "tuple"/\o.data=.seq its n/\its.size<=aK/\Vals xs its.toList
noncomputable def uA:ae->Option V
 | .none=>some .non
 | .bool b=>some (.bl b)
 | .int i _=>some (.int i)
 | .str x _=>some (.str x)
 | .bytes b _=>some (.byt b)
 | .float b _=>some (.flt b)
 | .ref a=>some (.ref a)
 | .type n=>some (.ty n)
 |_=>none
theorem RelV.abs{x:V}{u:ae}(r:RelV x u):uA u=some x:=by
 cases x with
 |non=>cases r;rfl
 |bl _=>cases r;rfl
 |int _=>obtain⟨t,rfl⟩:=r;rfl
 |str _=>obtain⟨t,rfl⟩:=r;rfl
 |byt _=>obtain⟨t,rfl⟩:=r;rfl
 |flt _=>obtain⟨t,rfl⟩:=r;rfl
 |ref _=>cases r;rfl
 |ty _=>cases r;rfl
theorem RelV.inj{x y:V}{u:ae}(r:RelV x u)(q:RelV y u):x=y:=bg (r.abs.symm.trans q.abs)
theorem Vals.inj{xs ys:List V}{us:List ae}(h:Vals xs us)(h':Vals ys us):xs=ys:=by
 induction h generalizing ys with
 |nil=>cases h';rfl
 |cons r t ih=>cases h' with
  |cons r' t'=>rw[r.inj r',ih t']
section
variable{X:Cx}{pins:List (Addr×Obj)}{σ:St}{H:Hp}{s:af}{a:Addr}{xs ys:List V}
theorem SqL.of{K:aq}(h:H a=some (.lst xs)):SqL K H a xs:=.inl (.inl h)
theorem SqT.of{K:aq}(h:H a=some (.tup xs)):SqT K H a xs:=.inl (.inl h)
theorem Inv.list(I:Inv X pins σ H s)(h:SqL X.K H a xs):∃its:List ae,Vals xs its/\PlainL s.heap a its.toArray/\xs.length<=sizeLine:=by
 rcases h with h|⟨o,its,n,hk,hc,hd,hs,hz,r⟩
 ·obtain⟨z,its,n,r,e⟩:=h.ok I.hok;exact⟨its,r,⟨_,n,e,rfl,rfl,rfl⟩,z⟩
 ·refine⟨its.toList,r,⟨o,n,I.kIn a o hk,hc,hd,by simpa using hs⟩,?_⟩;have e:=r.length;simp only[Array.length_toList]at e;lia
theorem Inv.tuple(I:Inv X pins σ H s)(h:SqT X.K H a xs):∃its:List ae,Vals xs its/\IsTup s.heap a its.toArray/\xs.length<=sizeLine:=by
 rcases h with h|⟨o,its,n,hk,hc,hs,hz,r⟩
 ·obtain⟨z,its,r,p⟩:=h.ok I.hok;exact⟨its,r,p,z⟩
 ·refine⟨its.toList,r,⟨o,I.kIn a o hk,hc,n,by simpa using hs⟩,?_⟩;have e:=r.length;simp only[Array.length_toList]at e;lia
theorem Inv.list_inj(I:Inv X pins σ H s)(h:SqL X.K H a xs)(h':SqL X.K H a ys):xs=ys:=by
 obtain⟨its,r,⟨o,n,e,_,_,d⟩,_⟩:=I.list h;obtain⟨its',r',⟨o',n',e',_,_,d'⟩,_⟩:=I.list h';rw[e]at e';cases e';rw[d]at d';injection d' with d1 _
 have:its=its':=by simpa using congrArg Array.toList d1
 subst this;exact r.inj r'
theorem Inv.tuple_inj(I:Inv X pins σ H s)(h:SqT X.K H a xs)(h':SqT X.K H a ys):xs=ys:=by
 obtain⟨its,r,⟨o,e,_,n,d⟩,_⟩:=I.tuple h;obtain⟨its',r',⟨o',e',_,n',d'⟩,_⟩:=I.tuple h';rw[e]at e';cases e';rw[d]at d';injection d' with d1 _
 have:its=its':=by simpa using congrArg Array.toList d1
 subst this;exact r.inj r'
end
abbrev Cx.wish(X:Cx)(E:ae->af->Prop):Cx:={X with xe:=E}
abbrev Cx.nox(X:Cx):Cx:=X.wish λ_ _=>False
theorem Cx.Ok.wish{X:Cx}(ok:X.Ok)(E:ae->af->Prop):(X.wish E).Ok:=
 ⟨ok.mod,ok.kind,ok.glob,ok.blt,ok.above,ok.inj,ok.has,ok.cab,ok.hd,ok.frames,ok.stk,ok.exf,ok.bs,ok.bsz,ok.noex,ok.exfs,ok.funs,ok.frf⟩
theorem Cx.Ok.unwish{X:Cx}{E:ae->af->Prop}(ok:(X.wish E).Ok):X.Ok:=
 ⟨ok.mod,ok.kind,ok.glob,ok.blt,ok.above,ok.inj,ok.has,ok.cab,ok.hd,ok.frames,ok.stk,ok.exf,ok.bs,ok.bsz,ok.noex,ok.exfs,ok.funs,ok.frf⟩
section
variable{X:Cx}{pins:List (Addr×Obj)}{σ:St}{H:Hp}{s:af}{E:ae->af->Prop}
theorem Inv.wish(I:Inv X pins σ H s)(E:ae->af->Prop):Inv (X.wish E) pins σ H s:=⟨I.ok.wish E,I.os,I.bare,I.base,I.loc,I.cell,I.free,I.freeC,I.pin,I.hok,I.len⟩
theorem Inv.unwish(I:Inv (X.wish E) pins σ H s):Inv X pins σ H s:=⟨I.ok.unwish,I.os,I.bare,I.base,I.loc,I.cell,I.free,I.freeC,I.pin,I.hok,I.len⟩
theorem SP.unwish{D:Ends}{f:Flow}{s':af}(h:SP (X.wish E) pins D f s'):SP X pins D f s':=by
 cases f with
 |next=>obtain⟨σ',H',I,q⟩:=h;exact⟨σ',H',I.unwish,q⟩
 |brk=>obtain⟨σ',H',I,q⟩:=h;exact⟨σ',H',I.unwish,q⟩
 |cont=>obtain⟨σ',H',I,q⟩:=h;exact⟨σ',H',I.unwish,q⟩
 |ret u=>obtain⟨v,σ',H',I,r,q⟩:=h;exact⟨v,σ',H',I.unwish,r,q⟩
end
section
variable{X:Cx}{st:Stmt}{rest:List Stmt}{t u:TS}{e:Expr}{te:TE}{pos:Pos}
noncomputable def ft:TS:=λD σ H=>D.nx σ H
noncomputable def vC(t u:TS):TS:=λD σ H=>t {D with nx:=u D} σ H
theorem yD:PSs X [] ft:=λ_ _ σ H _ I h=>wpAny_execs_nil ⟨σ,H,I,h⟩
theorem Ag(h1:PS X st t)(h2:PSs X rest u):PSs X (st::rest) (vC t u):=by
 intro pins s σ H D I h;refine wpAny_execs_cons (thn (h1 pins s σ H {D with nx:=u D} I h) λf s1 q=>?_);cases f with
 |next=>
  obtain⟨σ',H',I',q⟩:=q;exact h2 pins s1 σ' H' D I' q
 |ret v=>exact q
 |brk=>exact q
 |cont=>exact q
noncomputable def o8:TS:=λD σ H=>D.bk σ H
noncomputable def sG:TS:=λD σ H=>D.ct σ H
theorem wu:PS X (.Pass pos) ft:=λ_ _ σ H _ I h=>wpAny_Pass ⟨σ,H,I,h⟩
theorem xm:PS X (.Break pos) o8:=λ_ _ σ H _ I h=>wpAny_Break ⟨σ,H,I,h⟩
theorem ux:PS X (.Continue pos) sG:=λ_ _ σ H _ I h=>wpAny_Continue ⟨σ,H,I,h⟩
theorem Inv.quiet{pins:List (Addr×Obj)}{σ:St}{H:Hp}{s:af}(I:Inv X pins σ H s):interactive X.env=false:=by simp[interactive,I.ok.kind]
noncomputable def tW(te:TE):TS:=λD σ H=>te σ H λ_ H1=>D.nx σ H1
theorem jR(he:PE X e te)(hs:swapsWith e none pos.line X.env=pure false:=by rfl):PS X (.Expr e pos) (tW te):=by
 intro pins s σ H D I h;exact wpAny_Expr_any (thn (he pins s σ H _ I h) λv s1 ⟨x,H1,I1,r1,q1⟩=>⟨σ,H1,I1,q1⟩) I.quiet hs
noncomputable def sy(te:TE):TS:=λD σ H=>te σ H D.rt
theorem mi(he:PE X e te):PS X (.Return (some e) pos) (sy te):=by
 intro pins s σ H D I h;exact wpAny_Return_some (thn (he pins s σ H _ I h) λv s1 ⟨x,H1,I1,r1,q1⟩=>⟨x,σ,H1,I1,r1,q1⟩)
noncomputable def tP:TS:=λD _ H=>D.rt .non H
theorem wU:PS X (.Return none pos) tP:=λ_ _ σ H _ I h=>wpAny_Return_none ⟨.non,σ,H,I,rfl,h⟩
noncomputable def gH(c:TT)(t u:TS):TS:=λD σ H=>c σ H λb H1=>if b=true then t D σ H1 else u D σ H1
theorem uz{c:Expr}{a b:List Stmt}{tc:TT}(hc:PT X c tc)(ha:PSs X a t)(hb:PSs X b u):PS X (.If c a b pos) (gH tc t u):=by
 intro pins s σ H D I h;refine wpAny_If (thn (hc pins s σ H _ I h) λd s1 ⟨H1,I1,q1⟩=>?_);cases d with
 |true=>exact ha pins s1 σ H1 D I1 q1
 |false=>exact hb pins s1 σ H1 D I1 q1
end
abbrev TG:=V->St->Hp->(St->Hp->Prop)->Prop
abbrev TGs:=List V->St->Hp->(St->Hp->Prop)->Prop
noncomputable def PG(X:Cx)(target:Expr)(t:TG):Prop:=
 ∀(pins:List (Addr×Obj)) (s:af) (σ:St) (H:Hp) (v:V) (u:ae) (Q:St->Hp->Prop),Inv X pins σ H s->RelV v u->t v σ H Q ->
  ai (aj X.prog X.w) X.A (assign target X.env u) (λ_ s'=>∃σ' H',Inv X pins σ' H' s'/\Q σ' H') X.xe s
noncomputable def PGs(X:Cx)(ts:List Expr)(t:TGs):Prop:=
 ∀(pins:List (Addr×Obj)) (s:af) (σ:St) (H:Hp) (vs:List V) (us:List ae) (Q:St->Hp->Prop),Inv X pins σ H s->Vals vs us->t vs σ H Q ->
  ai (aj X.prog X.w) X.A (assignInOrder ((assignEach ts X.env).map (·.2)) us) (λ_ s'=>∃σ' H',Inv X pins σ' H' s'/\Q σ' H') X.xe s
abbrev jw:=V->V->V->Hp->(Hp->Prop)->Prop
noncomputable def kr(X:Cx)(t:jw):Prop:=
 ∀(pins:List (Addr×Obj)) (s:af) (σ:St) (H:Hp) (o i v:V) (ov iv u:ae) (Q:Hp->Prop),Inv X pins σ H s->RelV o ov->RelV i iv->RelV v u->t o i v H Q ->
  ai (aj X.prog X.w) X.A (setItem ov iv u) (λ_ s'=>∃H',Inv X pins σ H' s'/\Q H') X.xe s
section
variable{X:Cx}{pos:Pos}
noncomputable def dI(i:Nat):TG:=λv σ H Q=>Q (σ.set i (some v)) H
theorem vV{i:Nat}{x:Str}(hN:X.N.Nodup)(hi:X.N[i]? = some x)(hx:Loc X.env.scope x)(hf:X.fn x=true\/X.env.scope.names.lookup x=some .local:=by first|exact .inl rfl|exact .inr rfl|assumption):PG X (.Name x pos) (dI i):=by
 intro pins s σ H v u Q I r h;exact wpAny_assign_Name (iz I hN hi hx r (λs' I'=>⟨_,H,I',h⟩) hf)
noncomputable def nz:TGs:=λvs σ H Q=>vs=[]/\Q σ H
noncomputable def mT(t:TG)(u:TGs):TGs:=λvs σ H Q=>∃v r,vs=v::r/\t v σ H λσ' H'=>u r σ' H' Q
theorem xa:PGs X [] nz:=by
 intro pins s σ H vs us Q I r h;obtain⟨e,h⟩:=h;subst e;cases r;exact assignInOrder_nil ⟨σ,H,I,h⟩
theorem uu{e:Expr}{es:List Expr}{t:TG}{u:TGs}(h1:PG X e t)(h2:PGs X es u)
  (hs:(assignEach (e::es) X.env).map (·.2)=assign e X.env::(assignEach es X.env).map (·.2):=by rfl):PGs X (e::es) (mT t u):=by
 intro pins s σ H vs us Q I r h;obtain⟨v,vr,e1,h⟩:=h;subst e1;cases r with
 |cons r rr=>
  rw[hs];refine assignInOrder_cons (thn (h1 pins s σ H _ _ _ I r h) λ_ s1 ⟨σ1,H1,I1,q1⟩=>?_);exact h2 pins s1 σ1 H1 _ _ Q I1 rr q1
noncomputable def mG(K:aq)(n:Nat)(t:TGs):TG:=λv σ H Q=>∃a xs,v=.ref a/\SqT K H a xs/\xs.length=n/\t xs σ H Q
theorem uq{es:List Expr}{k:Nat}{t:TGs}{n:Nat}(hc:X.calm=true)(h:PGs X es t)
  (hn:(assignEach es X.env).length=n:=by rfl) (hst:(assignEach es X.env).findIdx? (·.1)=none:=by rfl):PG X (.Tuple es k pos) (mG X.K n t):=by
 intro pins s σ H v u Q I r hw;obtain⟨a,xs,e1,hq,hl,hw⟩:=hw;subst e1;cases r;obtain⟨its,rv,ht,hz⟩:=I.tuple hq;refine assign_Tuple_tuple (I.ok.hd hc) ht (by simp[hn,<-hl,rv.length]) hst λh' hx=>?_
 have I1:Inv X pins σ H {s with heap:=h'}:=I.kept (t':=s.toks) λb o e=>hx b o (aS (aC e)) e
 exact h pins _ σ H xs _ Q I1 (by simpa using rv) hw
noncomputable def lz(to ti:TE)(t:jw):TG:=λv σ H Q=>to σ H λo H1=>ti σ H1 λi H2=>t o i v H2 λH3=>Q σ H3
theorem ub{o i:Expr}{to ti:TE}{t:jw}(ho:PE X o to)(hi:PE X i ti)(hs:kr X t)
  (ha:∀v,assign (.Subscript o i pos) X.env v=(do
   let ov <-holding [v] (eval o X.env)
   let iv <-holding [v,ov] (eval i X.env)
   standAt pos
   holding [v,ov,iv] (setItem ov iv v)
   release [v,ov,iv] []):=by intro _;rfl):PG X (.Subscript o i pos) (lz to ti t):=by
 intro pins s σ H v u Q I r h;rw[ha];refine ag (bO (thn (ho pins s σ H _ I h) λov s1 ⟨x,H1,I1,r1,q1⟩=>?_));refine ag (bO (thn (hi pins s1 σ H1 _ I1 q1) λiv s2 ⟨y,H2,I2,r2,q2⟩=>?_));refine ag (wpAny_standAt (ag (bO (thn (hs pins s2 σ H2 x y v ov iv u _ I2 r1 r2 r q2) λ_ s3 ⟨H3,I3,q3⟩=>?_))));exact wpAny_release ⟨σ,H3,I3,q3⟩
noncomputable def gn(te:TE)(g:TG):TS:=λD σ H=>te σ H λx H1=>g x σ H1 D.nx
theorem kO{tg e:Expr}{te:TE}{g:TG}(he:PE X e te)(hg:PG X tg g)(hs:swapsWithSole [tg] e pos.line X.env=pure false:=by rfl)(hw:swappedStores [tg] e X.env=pure none:=by rfl)
  (h1:(assignEach [tg] X.env).map (·.2)=[assign tg X.env]:=by rfl):PS X (.Assign [tg] e pos) (gn te g):=by
 intro pins s σ H D I h;refine wpAny_Assign_stores (thn (he pins s σ H _ I h) λv s1 ⟨x,H1,I1,r1,q1⟩=>?_) hs hw;rw[h1];exact thn (hg pins s1 σ H1 x v _ I1 r1 q1) λ_ s2 q=>q
theorem kH{i:Nat}{x:Str}{e:Expr}{te:TE}{pos':Pos}(hN:X.N.Nodup)(hi:X.N[i]? = some x)(hx:Loc X.env.scope x)(he:PE X e te)(hs:swapsWith e (some (.Name x pos')) pos.line X.env=pure false:=by rfl)(hf:X.fn x=true\/X.env.scope.names.lookup x=some .local:=by first|exact .inl rfl|exact .inr rfl|assumption) :
  PS X (.Assign [.Name x pos'] e pos) (gn te (dI i)):=by
 intro pins s σ H D I h;refine wpAny_Assign_Name (thn (he pins s σ H _ I h) λv s1 ⟨y,H1,I1,r1,q1⟩=>?_) hs;exact iz I1 hN hi hx r1 (λs2 I2=>⟨_,H1,I2,q1⟩) hf
end
section
variable{X:Cx}{pos:Pos}
end
structure It where
 go:Nat->Hp->Prop
 yld:Nat->Hp->V->Hp->Prop
 stop:Nat->Hp->Prop
noncomputable def cC(X:Cx)(pins:List (Addr×Obj))(H:Hp)(b:Addr):Prop:=
 H b=none/\b≠X.env.locals/\b∉X.fs/\(b∈X.ex\/X.s₀.heap.objs.size<=b)/\(∀x c,X.env.cells.lookup x=some c->c≠b)/\∀p∈X.pn++pins,p.1≠b
theorem Inv.fpOk{X:Cx}{pins:List (Addr×Obj)}{σ:St}{H H':Hp}{s:af}{b:Addr}(I:Inv X pins σ H s)(hb:s.heap.objs.size<=b)(hn:H' b=none):cC X pins H' b:=by
 refine⟨hn,Nat.ne_of_gt (aY I.lt hb),I.nofs hb,.inr (aZ I.sz hb),λx c e z=>?_,λp hp z=>?_⟩
 ·obtain⟨v,q⟩:=I.cell x c e;exact absurd (aY q.lt (by rw[z];exact hb)) (bh _)
 ·exact absurd (aY (aC (I.pin p hp).1) (by rw[z];exact hb)) (bh _)
structure Turn(P:av)(w:au)(K:aq)(tg:Expr)(J:It)(fp:List Addr)(it:Addr)(tn:Nat->Heap->Prop):Prop where
 mem:it∈fp
 obj:∀i h,tn i h->∀b∈fp,∃o,h.get? b=some o/\∀v,o.data≠.cell v
 keep:∀i h h',tn i h->(∀b∈fp,∀o,h.get? b=some o->h'.get? b=some o)->tn i h'
 item:∀(X:Cx),X.prog=P->X.w=w->X.K=K->X.calm=true->∀(i:Nat) (pins:List (Addr×Obj)) (s:af) (σ:St) (H:Hp) (E:ae->af->Prop),Inv X pins σ H s->(∀b∈fp,cC X pins H b)->tn i s.heap->J.go i H ->
  ai (aj P w) X.A (pyNext (.ref it)) (λr s1=>∃u,r=some u /\
   ai (aj P w) X.A (letOwnedTupleGo tg (.ref it) u) (λ_ s2=>∃x H',Inv X pins σ H' s2/\RelV x u/\J.yld i H x H'/\tn (i+1) s2.heap/\∀b∈fp,H' b=none) E s1) E s
 done:∀(X:Cx),X.prog=P->X.w=w->X.K=K->X.calm=true->∀(i:Nat) (pins:List (Addr×Obj)) (s:af) (σ:St) (H:Hp) (E:ae->af->Prop),Inv X pins σ H s->(∀b∈fp,cC X pins H b)->tn i s.heap->J.stop i H ->
  ai (aj P w) X.A (pyNext (.ref it)) (λr s1=>r=none/\Inv X pins σ H s1) E s
 self:∀(A:aw) (i:Nat) (s:af) (Q:ae->af->Prop) (E:ae->af->Prop),tn i s.heap->Q (.ref it) s->ai (aj P w) A (pyIter (.ref it)) Q E s
abbrev TI:=St->Hp->(It->Hp->Prop)->Prop
noncomputable def PIE(X:Cx)(pins:List (Addr×Obj))(σ:St)(tg:Expr)(R:It->Hp->Prop)(itv:ae)(s2:af):Prop:=
 ∃(it:Addr) (fp:List Addr) (tn:Nat->Heap->Prop) (J:It) (H':Hp),itv=.ref it/\Inv X pins σ H' s2/\Turn X.prog X.w X.K tg J fp it tn/\tn 0 s2.heap/\(∀b∈fp,cC X pins H' b)/\R J H'
noncomputable def PI(X:Cx)(tg iter:Expr)(wi:TI):Prop:=
 ∀(pins:List (Addr×Obj)) (s:af) (σ:St) (H:Hp) (R:It->Hp->Prop),Inv X pins σ H s->wi σ H R ->
  ai (aj X.prog X.w) X.A (eval iter X.env) (λv s1=>ai (aj X.prog X.w) X.A (pyIter v) (PIE X pins σ tg R) X.xe s1) X.xe s
theorem iK{M:Model}{A:aw}{E:ae->af->Prop}{s:af}{tg:Expr}{it:Addr}{u:ae}{o:Obj}{n:String}{vs:Array ae}{Q:Unit->af->Prop}(ho:s.heap.get? it=some o)(hc:o.cls=.type n)(hd:o.data=.fields vs)
  (hn:["enumerate","zip","dict_itemiterator","dict_reverseitemiterator","odict_iterator","itertools.zip_longest","itertools.pairwise"].contains n=false) (hQ:Q () s):ai M A (letOwnedTupleGo tg (.ref it) u) Q E s:=by
 unfold letOwnedTupleGo;cases tg<;>first
  |exact ax hQ
  | (cases u<;>first
    |exact ax hQ
    | (refine ag (wpAny_load ho ?_)
       rw[hc,hd];show ai M A (if (["enumerate","zip","dict_itemiterator","dict_reverseitemiterator","odict_iterator","itertools.zip_longest","itertools.pairwise"].contains n&&vs[0]? == some (rawInt _))=true then _ else _) Q E s;rw[if_neg (by intro h;rw[hn,Bool.false_and]at h;cases h)];exact ax hQ))
noncomputable def Itl(K:aq)(a:Addr):It:=
 ⟨λi H=>∃xs x,SqL K H a xs/\xs[i]? = some x,λi H x H'=>H'=H/\∀xs,SqL K H a xs->xs[i]? = some x,λi H=>∃xs,SqL K H a xs/\xs.length<=i⟩
noncomputable def Itt(K:aq)(a:Addr):It:=
 ⟨λi H=>∃xs x,SqT K H a xs/\xs[i]? = some x,λi H x H'=>H'=H/\∀xs,SqT K H a xs->xs[i]? = some x,λi H=>∃xs,SqT K H a xs/\xs.length<=i⟩
noncomputable def Itr(lo:Int)(n:Nat):It:=⟨λi _=>i<n,λi H x H'=>H'=H/\x=.int (lo+i),λi _=>n<=i⟩
theorem yn{P:av}{w:au}{K:aq}{tg:Expr}(a it:Addr):Turn P w K tg (Itl K a) [it] it (λi h=>h.IsListIter it a i) where
 mem:=by simp
 obj:=λi h st b hb=>by
  have e:b=it:=by simpa using hb
  subst e;obtain⟨o,e,c,d⟩:=st;exact⟨o,e,λv z=>by rw[d]at z;cases z⟩
 keep:=λi h h' st k=>st.at λo e=>k it (by simp) o e
 item:=by
  intro X hP hw hK hc i pins s σ H E I hf st hg;subst hP hw hK;obtain⟨xs,x,hq,hx⟩:=hg;obtain⟨its,rv,p,hz⟩:=I.list hq;obtain⟨u,hu,ru⟩:=rv.get hx;obtain⟨f0,f1,f2,f3,f4,f5⟩:=hf it (by simp);refine wpAny_pyNext_list_item st p.isList (x:=u) (by simpa using hu) λh' st' sb=>?_
  have I1:Inv X pins σ H {s with heap:=h'}:=I.turned (t':=s.toks) (λb o hb e=>(sb.2 b hb).trans e) f0 f1 f3 f4 f5;obtain⟨o,e,c,d⟩:=id st';exact⟨u,rfl,iK (s:={s with heap:=h'}) e c d (by decide) ⟨x,H,I1,ru,⟨rfl,λys hy=>by rw[I.list_inj hy hq];exact hx⟩,st',λb hb=>(hf b hb).1⟩⟩
 done:=by
  intro X hP hw hK hc i pins s σ H E I hf st hg;subst hP hw hK;obtain⟨xs,hq,hx⟩:=hg;obtain⟨its,rv,p,hz⟩:=I.list hq;obtain⟨f0,f1,f2,f3,f4,f5⟩:=hf it (by simp);have hl:=rv.length;exact wpAny_pyNext_list_end (I.ok.hd hc) st p.isList (by simp;lia) λh' eb=>⟨rfl,I.turned (t':=s.toks) (λb o hb e=>eb b o hb e) f0 f1 f3 f4 f5⟩
 self:=λ_ _ _ _ _ st h=>wpAny_pyIter_listiter st h
theorem yC{P:av}{w:au}{K:aq}{tg:Expr}(a it:Addr):Turn P w K tg (Itt K a) [it] it (λi h=>h.IsTupleIter it a i) where
 mem:=by simp
 obj:=λi h st b hb=>by
  have e:b=it:=by simpa using hb
  subst e;obtain⟨o,e,c,d⟩:=st;exact⟨o,e,λv z=>by rw[d]at z;cases z⟩
 keep:=λi h h' st k=>st.at λo e=>k it (by simp) o e
 item:=by
  intro X hP hw hK hc i pins s σ H E I hf st hg;subst hP hw hK;obtain⟨xs,x,hq,hx⟩:=hg;obtain⟨its,rv,p,hz⟩:=I.tuple hq;obtain⟨u,hu,ru⟩:=rv.get hx;obtain⟨f0,f1,f2,f3,f4,f5⟩:=hf it (by simp);refine wpAny_pyNext_tuple_item st (show s.heap.IsTuple a its.toArray from p) (x:=u) (by simpa using hu) λh' st' sb=>?_
  have I1:Inv X pins σ H {s with heap:=h'}:=I.turned (t':=s.toks) (λb o hb e=>(sb.2 b hb).trans e) f0 f1 f3 f4 f5;obtain⟨o,e,c,d⟩:=id st';exact⟨u,rfl,iK (s:={s with heap:=h'}) e c d (by decide) ⟨x,H,I1,ru,⟨rfl,λys hy=>by rw[I.tuple_inj hy hq];exact hx⟩,st',λb hb=>(hf b hb).1⟩⟩
 done:=by
  intro X hP hw hK hc i pins s σ H E I hf st hg;subst hP hw hK;obtain⟨xs,hq,hx⟩:=hg;obtain⟨its,rv,p,hz⟩:=I.tuple hq;obtain⟨f0,f1,f2,f3,f4,f5⟩:=hf it (by simp);have hl:=rv.length;exact wpAny_pyNext_tuple_end (I.ok.hd hc) st (show s.heap.IsTuple a its.toArray from p) (by simp;lia) λh' eb=>⟨rfl,I.turned (t':=s.toks) (λb o hb e=>eb b o hb e) f0 f1 f3 f4 f5⟩
 self:=λ_ _ _ _ _ st h=>wpAny_pyIter_tupleiter st h
theorem ya{P:av}{w:au}{K:aq}{tg:Expr}(it:Addr)(lo:Int)(n:Nat):Turn P w K tg (Itr lo n) [it] it (λi h=>IsRangeIter h it (lo+(i:Nat) * 1) ((n:Int)-(i:Nat)) 1) where
 mem:=by simp
 obj:=λi h st b hb=>by
  have e:b=it:=by simpa using hb
  subst e;exact⟨_,st,λv z=>by
   have z':Data.fields _=Data.cell v:=z;cases z'⟩
 keep:=λi h h' st k=>k it (by simp) _ st
 item:=by
  intro X hP hw hK hc i pins s σ H E I hf st hg;subst hP hw hK;obtain⟨f0,f1,f2,f3,f4,f5⟩:=hf it (by simp);have W:=Walks.range (prog:=X.prog) (w:=X.w) (I.ok.hd hc) it lo 1 n;refine W.item i s _ _ hg st λv h' tk hv st' kk=>?_
  obtain⟨t,rfl⟩:=hv;have I1:Inv X pins σ H {s with heap:=h',toks:=tk}:=I.turned (λb o hb e=>kk b o (by simpa using hb) e) f0 f1 f3 f4 f5;refine⟨_,rfl,iK (s:={s with heap:=h',toks:=tk}) (n:="range_iterator") st' rfl rfl (by decide) ⟨.int (lo+i),H,I1,⟨t,?_⟩,⟨rfl,rfl⟩,st',λb hb=>(hf b hb).1⟩⟩;rw[Int.mul_one]
 done:=by
  intro X hP hw hK hc i pins s σ H E I hf st hg;subst hP hw hK;obtain⟨f0,f1,f2,f3,f4,f5⟩:=hf it (by simp);exact wpAny_pyNext_range_end (I.ok.hd hc) st (by have:n<=i:=hg;lia) λh' eb=>⟨rfl,I.turned (t':=s.toks) (λb o hb e=>eb b o hb e) f0 f1 f3 f4 f5⟩
 self:=λ_ _ _ _ _ st h=>wpAny_pyIter_rangeiter st h
section
variable{X:Cx}{tg:Expr}
noncomputable def xZ(K:aq)(tl:TE):TI:=λσ H R=>tl σ H λx H1=>∃a,x=.ref a/\(∃xs,SqL K H1 a xs)/\R (Itl K a) H1
noncomputable def wx(K:aq)(tl:TE):TI:=λσ H R=>tl σ H λx H1=>∃a,x=.ref a/\(∃xs,SqT K H1 a xs)/\R (Itt K a) H1
theorem Ab{l:Expr}{tl:TE}(hl:PE X l tl):PI X tg l (xZ X.K tl):=by
 intro pins s σ H R I h;refine thn (hl pins s σ H _ I h) λv s1 ⟨x,H1,I1,r1,q1⟩=>?_
 obtain⟨a,e,⟨xs,hq⟩,q⟩:=q1;subst e;cases r1;obtain⟨its,rv,p,hz⟩:=I1.list hq;refine wpAny_pyIter_list p.isList ?_;refine⟨s1.heap.objs.size,[s1.heap.objs.size],_,_,H1,rfl,I1.kept (t':=s1.toks) λb o e=>Heap.get?_push_of_some _ e,yn a _,⟨_,Heap.get?_push_size _ rfl,rfl,rfl⟩,λb hb=>?_,q⟩;have e:b=s1.heap.objs.size:=by simpa using hb
 subst e;exact I1.fpOk (aF _) (I1.hok.fresh (aF _))
theorem we{l:Expr}{tl:TE}(hl:PE X l tl):PI X tg l (wx X.K tl):=by
 intro pins s σ H R I h;refine thn (hl pins s σ H _ I h) λv s1 ⟨x,H1,I1,r1,q1⟩=>?_
 obtain⟨a,e,⟨xs,hq⟩,q⟩:=q1;subst e;cases r1;obtain⟨its,rv,p,hz⟩:=I1.tuple hq;refine wpAny_pyIter_tuple (show s1.heap.IsTuple a its.toArray from p) ?_;refine⟨s1.heap.objs.size,[s1.heap.objs.size],_,_,H1,rfl,I1.kept (t':=s1.toks) λb o e=>Heap.get?_push_of_some _ e,yC a _,⟨_,Heap.get?_push_size _ rfl,rfl,rfl⟩,λb hb=>?_,q⟩;have e:b=s1.heap.objs.size:=by simpa using hb
 subst e;exact I1.fpOk (aF _) (I1.hok.fresh (aF _))
theorem mW{pins:List (Addr×Obj)}{σ:St}{H:Hp}{s:af}{R:It->Hp->Prop}{E:ae->af->Prop}{lo hi:Int}{t u v:Tok}{tk:Nat}(I:Inv X pins σ H s)(h1:-(2^62)<=lo)(h2:lo<2^62)(h3:-(2^62)<=hi)(h4:hi<2^62)
  (q:R (Itr lo (hi-lo).toNat) H):ai (aj X.prog X.w) X.A (pyIter (.ref s.heap.objs.size)) (PIE X pins σ tg R) E {s with heap:=s.heap.push {cls:=.type "range",data:=.fields #[.int lo t,.int hi u,.int 1 v]},toks:=tk}:=by
 refine wpAny_pyIter_range (IsRange.new ..) (small_one h1 h2 h3 h4) ?_;have I1:Inv X pins σ H {s with heap:=s.heap.push {cls:=.type "range",data:=.fields #[.int lo t,.int hi u,.int 1 v]},toks:=tk}:=I.kept λb o e=>Heap.get?_push_of_some _ e
 refine⟨(s.heap.push {cls:=.type "range",data:=.fields #[.int lo t,.int hi u,.int 1 v]}).objs.size,[(s.heap.push {cls:=.type "range",data:=.fields #[.int lo t,.int hi u,.int 1 v]}).objs.size],_,_,H,rfl,
  I1.kept (t':=tk) λb o e=>Heap.get?_push_of_some _ e,ya _ lo (hi-lo).toNat,?_,λb hb=>?_,q⟩
 ·have e1:lo+((0:Nat):Int) * 1=lo:=by simp
  have e2:(((hi-lo).toNat:Nat):Int)-((0:Nat):Int)=Builtin.Range.rangeSize lo hi 1:=by rw[rangeSize_one];split<;>lia
  show IsRangeIter _ _ (lo+((0:Nat):Int) * 1) ((((hi-lo).toNat:Nat):Int)-((0:Nat):Int)) 1;rw[e1,e2];exact Heap.get?_push_size _ rfl
 ·have e:b=(s.heap.push {cls:=.type "range",data:=.fields #[.int lo t,.int hi u,.int 1 v]}).objs.size:=by simpa using hb
  subst e;exact I1.fpOk (aF _) (I1.hok.fresh (aF _))
noncomputable def yS(ta:TA):TI:=λσ H R=>ta σ H λvs H1=>∃j:Int,vs=[.int j]/\-(2^62)<=j/\j<2^62/\R (Itr 0 j.toNat) H1
noncomputable def Ao(ta:TA):TI:=λσ H R=>ta σ H λvs H1=>∃i j:Int,vs=[.int i,.int j]/\(-(2^62)<=i/\i<2^62/\-(2^62)<=j/\j<2^62)/\R (Itr i (j-i).toNat) H1
theorem pY{a:Expr}{ta:TA}{p pos:Pos}(hg:Gl X "range")(hm:X.mg "range" = none)(ha:PA X [a] ta)(hs:aH [a] X.env=[(false,eval a X.env)]:=by rfl):PI X tg (.Call (.Name "range" p) [a] [] pos) (yS ta):=by
 intro pins s σ H R I h;refine Call_ (ez I hg hm boot_range (dC (thn (ha pos pins s σ H _ I h) λus s1 ⟨vs,H1,I1,r1,q1⟩=>?_) hs rfl));obtain⟨j,e,q1,q2,q⟩:=q1;subst e;cases r1 with
 |cons r rr=>
  cases rr;obtain⟨t,rfl⟩:=r;exact call_range_1 (mW I1 (by lia) (by lia) q1 q2 (by simpa using q))
theorem uo{a b:Expr}{ta:TA}{p pos:Pos}(hg:Gl X "range")(hm:X.mg "range" = none)(ha:PA X [a,b] ta)(hs:aH [a,b] X.env=[(false,eval a X.env),(false,eval b X.env)]:=by rfl)(hs2:aH [b] X.env=[(false,eval b X.env)]:=by rfl) :
  PI X tg (.Call (.Name "range" p) [a,b] [] pos) (Ao ta):=by
 intro pins s σ H R I h;refine Call_ (ez I hg hm boot_range (dC (thn (ha pos pins s σ H _ I h) λus s1 ⟨vs,H1,I1,r1,q1⟩=>?_) (by rw[hs,hs2]) (by rw[hs2];rfl)));obtain⟨i,j,e,⟨q1,q2,q3,q4⟩,q⟩:=q1;subst e;cases r1 with
 |cons r rr=>
  cases rr with
  |cons r' rr=>
   cases rr;obtain⟨t,rfl⟩:=r;obtain⟨t',rfl⟩:=r';exact call_range_2 (mW I1 q1 q2 q3 q4 q)
noncomputable def rT(wi:TI)(g:TG)(tb:TS):TS:=λD σ H=>wi σ H λJ H1=>∃W:Nat->Nat->St->Hp->Prop,(∃m,W 0 m σ H1)/\∀i m σ H,W i m σ H ->
 (J.stop i H/\D.nx σ H)\/(J.go i H/\∃N:St->Hp->Prop,(∀σ' H',N σ' H'->∃m',m'<m/\W (i+1) m' σ' H')/\∀x H',J.yld i H x H'->g x σ H' λσ2 H2=>tb {D with nx:=N,ct:=N,bk:=D.nx} σ2 H2)
noncomputable def fE(fp:List Addr)(h:Heap):List (Addr×Obj):=fp.filterMap λb=>(h.get? b).map λo=>(b,o)
theorem gO{fp:List Addr}{h:Heap}{b:Addr}{o:Obj}(hb:b∈fp)(e:h.get? b=some o):(b,o)∈fE fp h:=List.mem_filterMap.mpr ⟨b,hb,by rw[e];rfl⟩
theorem Ad{fp:List Addr}{h:Heap}{p:Addr×Obj}(hp:p∈fE fp h):p.1∈fp/\h.get? p.1=some p.2:=by
 obtain⟨b,hb,e⟩:=List.mem_filterMap.mp hp;cases q:h.get? b with
 |none=>rw[q]at e;cases e
 |some o=>
  rw[q]at e;have e':(b,o)=p:=bg e;subst e';exact⟨hb,q⟩
theorem Inv.pinned{pins:List (Addr×Obj)}{σ:St}{H:Hp}{s:af}{fp:List Addr}(I:Inv X pins σ H s)(hf:∀b∈fp,cC X pins H b)(ho:∀b∈fp,∃o,s.heap.get? b=some o/\∀v,o.data≠.cell v):Inv X (pins++fE fp s.heap) σ H s:=
 I.pins_of λp hp=>(List.mem_append.mp hp).elim (λz=>I.pin p (bQ _ z)) λz=>by
  obtain⟨hb,e⟩:=Ad z;obtain⟨f0,f1,f2,_⟩:=hf p.1 hb;obtain⟨o,e',d⟩:=ho p.1 hb;rw[e]at e';cases e';exact⟨e,f0,f1,f2,d⟩
theorem Inv.unpinned{pins pl:List (Addr×Obj)}{σ:St}{H:Hp}{s:af}(I:Inv X (pins++pl) σ H s):Inv X pins σ H s:=I.pins_of λp hp=>I.pin p (bQ _ (List.mem_append_left _ hp))
theorem uZ{iter:Expr}{body:List Stmt}{wi:TI}{g:TG}{tb:TS}{pos:Pos}(hp:PassesOwn (aj X.prog X.w) X.A X.env X.xe)(hc:X.calm=true)(hi:PI X tg iter wi)(hg:PG X tg g)(hb:PSs X body tb)
  (hs:∀x,foldedSetIterable iter X.env x=pure x:=by intro _;rfl):PS X (.For tg iter body [] pos) (rT wi g tb):=by
 intro pins s σ H D I h;refine wpAny_For (thn (hi pins s σ H _ I h) λv s1 h1=>thn h1 λitv s2 h2=>?_) hs;obtain⟨it,fp,tn,J,H2,e,I2,T,st2,f2,W,⟨m0,w0⟩,turn⟩:=h2;subst e
 -- what stays true of the iterator's objects through the loop
 have stat:∀{H':Hp},(∀b∈fp,H' b=none)->∀b∈fp,cC X pins H' b:=λhn b hb=>⟨hn b hb,(f2 b hb).2⟩
 refine codeAny_forLoop_any (λn s'=>∃i σ' H',Inv X pins σ' H' s'/\tn i s'.heap/\(∀b∈fp,H' b=none)/\W i n σ' H') ?_ m0 ⟨0,σ,H2,I2,st2,λb hb=>(f2 b hb).1,w0⟩;rintro n s3 ⟨i,σ3,H3,I3,st3,fr3,w3⟩;rcases turn i n σ3 H3 w3 with ⟨stop,qn⟩|⟨go,N,hN,step⟩
 ·refine wpAny_passesOwn hp (thn (T.done X rfl rfl rfl hc i pins s3 σ3 H3 X.xe I3 (stat fr3) st3 stop) λr s4 ⟨hr,I4⟩=>?_);subst hr;exact wpAny_execs_nil ⟨σ3,H3,I4,qn⟩
 ·refine wpAny_passesOwn hp (thn (T.item X rfl rfl rfl hc i pins s3 σ3 H3 X.xe I3 (stat fr3) st3 go) λr s4 ⟨u,hr,h4⟩=>?_);subst hr;refine wpAny_passesOwn hp (thn h4 λ_ s5 ⟨x,H5,I5,r5,y5,st5,fr5⟩=>?_);have I5':=I5.pinned (stat fr5) (T.obj _ _ st5);refine wpAny_passesOwn hp (thn (hg _ s5 σ3 H5 x u _ I5' r5 (step x H5 y5)) λ_ s6 ⟨σ6,H6,I6,q6⟩=>?_);refine wpAny_passesOwn hp (thn (hb _ s6 σ6 H6 _ I6 q6) λf s7 q7=>?_);have again:∀{σ7:St}{H7:Hp},Inv X (pins++fE fp s5.heap) σ7 H7 s7->N σ7 H7->∃m,m<n/\∃i σ' H',Inv X pins σ' H' s7/\tn i s7.heap/\(∀b∈fp,H' b=none)/\W i m σ' H':=λ{σ7 H7} I7 n7=>by
   obtain⟨m',hm,w7⟩:=hN σ7 H7 n7;refine⟨m',hm,i+1,σ7,H7,I7.unpinned,T.keep _ _ _ st5 λb hb o e=>(I7.pin (b,o) (bQ _ (bQ _ (gO hb e)))).1,λb hb=>?_,w7⟩;obtain⟨o,e,d⟩:=T.obj _ _ st5 b hb;exact(I7.pin (b,o) (bQ _ (bQ _ (gO hb e)))).2.1
  cases f with
  |next=>obtain⟨σ7,H7,I7,n7⟩:=q7;exact again I7 n7
  |cont=>obtain⟨σ7,H7,I7,n7⟩:=q7;exact again I7 n7
  |brk=>obtain⟨σ7,H7,I7,q7⟩:=q7;exact⟨σ7,H7,I7.unpinned,q7⟩
  |ret v=>obtain⟨x7,σ7,H7,I7,r7,q7⟩:=q7;exact⟨x7,σ7,H7,I7.unpinned,r7,q7⟩
end
abbrev R2:=V->V->Hp->VK->Prop
noncomputable def OpR(X:Cx)(f:ae->ae->Sem ae)(r:R2):Prop:=
 ∀(pins:List (Addr×Obj)) (s:af) (σ:St) (H:Hp) (x y:V) (v u:ae) (Q:VK),Inv X pins σ H s->RelV x v->RelV y u->r x y H Q ->
  ai (aj X.prog X.w) X.A (f v u) (EP X pins σ Q) X.xe s
noncomputable def UnR(X:Cx)(f:ae->Sem ae)(r:V->Hp->VK->Prop):Prop:=
 ∀(pins:List (Addr×Obj)) (s:af) (σ:St) (H:Hp) (x:V) (v:ae) (Q:VK),Inv X pins σ H s->RelV x v->r x H Q ->
  ai (aj X.prog X.w) X.A (f v) (EP X pins σ Q) X.xe s
noncomputable def zg(X:Cx)(f:ae)(r:List V->Hp->VK->Prop):Prop:=
 ∀(pins:List (Addr×Obj)) (s:af) (σ:St) (H:Hp) (xs:List V) (us:List ae) (Q:VK),Inv X pins σ H s->Vals xs us->r xs H Q ->
  ai (aj X.prog X.w) X.A (call f us) (EP X pins σ Q) X.xe s
noncomputable def rR(X:Cx)(r:V->Hp->(Bool->Hp->Prop)->Prop):Prop:=
 ∀(pins:List (Addr×Obj)) (s:af) (σ:St) (H:Hp) (x:V) (v:ae) (Q:Bool->Hp->Prop),Inv X pins σ H s->RelV x v->r x H Q ->
  ai (aj X.prog X.w) X.A (truthy v) (TP X pins σ Q) X.xe s
noncomputable def tOp(r:R2)(ta tb:TE):TE:=λσ H Q=>ta σ H λx H1=>tb σ H1 λy H2=>r x y H2 Q
noncomputable def tUn(r:V->Hp->VK->Prop)(ta:TE):TE:=λσ H Q=>ta σ H λx H1=>r x H1 Q
noncomputable def rI(C:Int->Int->Prop)(g:Int->Int->V):R2:=λx y H Q=>∃i j,x=.int i/\y=.int j/\C i j/\Q (g i j) H
noncomputable def rI0(g:Int->Int->V):R2:=λx y H Q=>∃i j,x=.int i/\y=.int j/\Q (g i j) H
noncomputable def rU(g:Int->V):V->Hp->VK->Prop:=λx H Q=>∃i,x=.int i/\Q (g i) H
section
variable{X:Cx}{a b c:Expr}{ta tb tc:TE}{pos:Pos}
theorem iW(ha:PE X a ta)(hb:PE X b tb){pins:List (Addr×Obj)}{s:af}{σ:St}{H:Hp}{R:V->V->Hp->Prop}(I:Inv X pins σ H s)
  (h:ta σ H λx H1=>tb σ H1 λy H2=>R x y H2) {Q:ae->af->Prop}{f:ae->ae->Sem ae}
  (hf:∀v u s2 x y H2,Inv X pins σ H2 s2->RelV x v->RelV y u->R x y H2->ai (aj X.prog X.w) X.A (f v u) Q X.xe s2) :
  ai (aj X.prog X.w) X.A (eval a X.env) (λv s₁=>ai (aj X.prog X.w) X.A (eval b X.env) (λu s₂=>ai (aj X.prog X.w) X.A (f v u) Q X.xe s₂) X.xe s₁) X.xe s:=by
 refine thn (ha pins s σ H _ I h) λv s1 ⟨x,H1,I1,r1,q1⟩=>?_
 refine thn (hb pins s1 σ H1 _ I1 q1) λu s2 ⟨y,H2,I2,r2,q2⟩=>?_
 exact hf v u s2 x y H2 I2 r1 r2 q2
theorem xY{op:Operator}{r:R2}(ho:OpR X (bq op) r)(ha:PE X a ta)(hb:PE X b tb):PE X (.BinOp a op b pos) (tOp r ta tb):=by
 intro pins s σ H Q I h;exact wpAny_BinOp (iW ha hb I h λv u s2 x y H2 I2 rx ry q=>ho pins s2 σ H2 x y v u Q I2 rx ry q)
theorem vx{op:UnaryOp}{r:V->Hp->VK->Prop}(ho:UnR X (unaryOp op) r)(ha:PE X a ta):PE X (.UnaryOp op a pos) (tUn r ta):=by
 intro pins s σ H Q I h;exact UnaryOp_ (thn (ha pins s σ H _ I h) λv s1 ⟨x,H1,I1,r1,q1⟩=>ho pins s1 σ H1 x v Q I1 r1 q1)
theorem opI{f:ae->ae->Sem ae}{C:Int->Int->Prop}{g:Int->Int->Int}
  (rule:∀(i j:Int) (t u:Tok) (s:af) (Q:ae->af->Prop) (E:ae->af->Prop),C i j->Q (.int (g i j) s.toks) {s with toks:=s.toks+1}->ai (aj X.prog X.w) X.A (f (.int i t) (.int j u)) Q E s) :
  OpR X f (rI C λi j=>.int (g i j)):=by
 intro pins s σ H x y v u Q I rx ry h;obtain⟨i,j,rfl,rfl,hc,q⟩:=h;obtain⟨t,rfl⟩:=rx;obtain⟨t',rfl⟩:=ry;exact rule i j t t' s _ _ hc ⟨.int (g i j),H,I.tok _,⟨_,rfl⟩,q⟩
theorem fG{f:ae->ae->Sem ae}{g:Int->Int->Int}
  (rule:∀(i j:Int) (t u:Tok) (s:af) (Q:ae->af->Prop) (E:ae->af->Prop),Q (.int (g i j) s.toks) {s with toks:=s.toks+1}->ai (aj X.prog X.w) X.A (f (.int i t) (.int j u)) Q E s) :
  OpR X f (rI0 λi j=>.int (g i j)):=by
 intro pins s σ H x y v u Q I rx ry h;obtain⟨i,j,rfl,rfl,q⟩:=h;obtain⟨t,rfl⟩:=rx;obtain⟨t',rfl⟩:=ry;exact rule i j t t' s _ _ ⟨.int (g i j),H,I.tok _,⟨_,rfl⟩,q⟩
theorem hV{f:ae->ae->Sem ae}{g:Int->Int->Bool}
  (rule:∀(i j:Int) (t u:Tok) (s:af) (Q:ae->af->Prop) (E:ae->af->Prop),Q (.bool (g i j)) s->ai (aj X.prog X.w) X.A (f (.int i t) (.int j u)) Q E s) :
  OpR X f (rI0 λi j=>.bl (g i j)):=by
 intro pins s σ H x y v u Q I rx ry h;obtain⟨i,j,rfl,rfl,q⟩:=h;obtain⟨t,rfl⟩:=rx;obtain⟨t',rfl⟩:=ry;exact rule i j t t' s _ _ ⟨.bl (g i j),H,I,rfl,q⟩
noncomputable def kU(i j:Int):Prop:=0<=j/\j<=1000000/\i.natAbs<2^64
noncomputable def jx(i j:Int):Prop:=(-(2^64)<i/\i<2^64)\/(-(2^64)<j/\j<2^64)
theorem jx.ok{i j:Int}(h:jx i j):IntMulOk i j:=by
 rcases h with ⟨h1,h2⟩|⟨h1,h2⟩
 ·exact .of_left (intBits_le_64 h1 h2)
 ·exact .of_right (intBits_le_64 h1 h2)
theorem tf(k:Nat):(0:Int)<=2^k:=by
 rw[two_pow_cast];exact Int.natCast_nonneg _
theorem Aq:OpR X (bq .Add) (rI0 λi j=>.int (i+j)):=fG λ_ _ _ _ _ _ _ q=>add_int q
theorem AH:OpR X (bq .Sub) (rI0 λi j=>.int (i-j)):=fG λ_ _ _ _ _ _ _ q=>sub_int q
theorem tj:OpR X (bq .Mult) (rI jx λi j=>.int (i * j)):=opI λ_ _ _ _ _ _ _ hc q=>mul_int q hc.ok
theorem p9:OpR X (bq .Mod) (rI (λ_ j=>0<j) λi j=>.int (i%j)):=opI λi j _ _ _ _ _ hc q=>by
 have h1:(0:Int)<j:=hc;exact mod_int' (by lia) (by rw[Int.fmod_eq_emod_of_nonneg i (by lia)];exact q)
theorem yK:OpR X (bq .Pow) (rI kU λi j=>.int (i^j.toNat)):=opI λ_ _ _ _ _ _ _ hc q=>pow_int_small hc.1 hc.2.1 hc.2.2 q
theorem vk:OpR X (bq .LShift) (rI kU λi j=>.int (i * 2^j.toNat)):=opI λ_ _ _ _ _ _ _ hc q=>lshift_int_small hc.1 hc.2.1 hc.2.2 q
theorem xu:OpR X (bq .RShift) (rI (λ_ j=>0<=j) λi j=>.int (i/2^j.toNat)):=opI λi j _ _ _ _ _ hc q=>
 rshift_int hc (by rw[Int.fdiv_eq_ediv_of_nonneg i (tf _)];exact q)
theorem yd:OpR X (bq .BitAnd) (rI0 λi j=>.int (Builtin.bitAnd i j)):=fG λ_ _ _ _ _ _ _ q=>and_int q
theorem uh:OpR X (bq .BitOr) (rI0 λi j=>.int (Builtin.bitOr i j)):=fG λ_ _ _ _ _ _ _ q=>or_int q
theorem o7:OpR X (bq .BitXor) (rI0 λi j=>.int (Builtin.bitXor i j)):=fG λ_ _ _ _ _ _ _ q=>xor_int q
theorem unI{f:ae->Sem ae}{g:Int->Int}
  (rule:∀(i:Int) (t:Tok) (s:af) (Q:ae->af->Prop) (E:ae->af->Prop),Q (.int (g i) s.toks) {s with toks:=s.toks+1}->ai (aj X.prog X.w) X.A (f (.int i t)) Q E s) :
  UnR X f (rU λi=>.int (g i)):=by
 intro pins s σ H x v Q I rx h;obtain⟨i,rfl,q⟩:=h;obtain⟨t,rfl⟩:=rx;exact rule i t s _ _ ⟨.int (g i),H,I.tok _,⟨_,rfl⟩,q⟩
theorem xQ:UnR X (unaryOp .USub) (rU λi=>.int (-i)):=unI λ_ _ _ _ _ q=>neg_int q
end
section
variable{X:Cx}{a b c:Expr}{ta tb tc:TE}{pos:Pos}
theorem gP{pins:List (Addr×Obj)}{σ:St}{H:Hp}{s:af}{Q:VK}{k k':Bool}(I:Inv X pins σ H s)(q:Q (.bl k) H)(e:k=k'):EP X pins σ Q (.bool k') s:=by
 subst e;exact⟨.bl k,H,I,rfl,q⟩
theorem wA:OpR X (aQ .Lt) (rI0 λi j=>.bl (decide (i<j))):=hV λ_ _ _ _ _ _ _ q=>lt_int q
theorem oN:OpR X (aQ .LtE) (rI0 λi j=>.bl (decide (i<=j))):=hV λ_ _ _ _ _ _ _ q=>le_int q
theorem tJ:OpR X (aQ .Gt) (rI0 λi j=>.bl (decide (j<i))):=hV λ_ _ _ _ _ _ _ q=>gt_int q
theorem ui:OpR X (aQ .GtE) (rI0 λi j=>.bl (decide (j<=i))):=hV λ_ _ _ _ _ _ _ q=>ge_int q
theorem uK:OpR X (aQ .Is) (λx y H Q=>y=.non/\Q (.bl (decide (x=.non))) H):=by
 intro pins s σ H x y v u Q I rx ry h;obtain⟨rfl,q⟩:=h;cases ry;refine is_none_gen (gP I q ?_);cases x<;>first
  | (cases rx;rfl)
  | (obtain⟨t,rfl⟩:=rx;rfl)
theorem uf:OpR X (aQ .IsNot) (λx y H Q=>y=.non/\Q (.bl (!decide (x=.non))) H):=by
 intro pins s σ H x y v u Q I rx ry h;obtain⟨rfl,q⟩:=h;cases ry;refine isnot_none_gen (gP I q ?_);cases x<;>first
  | (cases rx;rfl)
  | (obtain⟨t,rfl⟩:=rx;rfl)
theorem OpR.or{f:ae->ae->Sem ae}{r r':R2}(h:OpR X f r)(h':OpR X f r'):OpR X f (λx y H Q=>r x y H Q\/r' x y H Q):=by
 intro pins s σ H x y v u Q I rx ry q;rcases q with q|q
 ·exact h pins s σ H x y v u Q I rx ry q
 ·exact h' pins s σ H x y v u Q I rx ry q
theorem p_{op:CmpOp}{r:R2}(ho:OpR X (aQ op) r)(ha:PE X a ta)(hb:PE X b tb)(hm:behindInMarks op b=false):PE X (.Compare a [op] [b] pos) (tOp r ta tb):=by
 intro pins s σ H Q I h;exact wpAny_Compare1 (iW ha hb I h λv u s2 x y H2 I2 rx ry q=>ho pins s2 σ H2 x y v u Q I2 rx ry q) hm
noncomputable def i8(t:TE):TT:=λσ H Q=>t σ H λx H'=>∃k,x=.bl k/\Q k H'
theorem vP{op:CmpOp}{r:R2}(ho:OpR X (aQ op) r)(ha:PE X a ta)(hb:PE X b tb)(hm:behindInMarks op b=false):PT X (.Compare a [op] [b] pos) (i8 (tOp r ta tb)):=by
 intro pins s σ H Q I h;refine wpAny_isTrue_Compare1 (thn (ha pins s σ H _ I h) λv s1 ⟨x,H1,I1,r1,q1⟩=>thn (hb pins s1 σ H1 _ I1 q1) λu s2 ⟨y,H2,I2,r2,q2⟩=>
  thn (ho pins s2 σ H2 x y v u _ I2 r1 r2 q2) λc s3 ⟨z,H3,I3,r3,k,e,q3⟩=>?_) hm
 subst e;cases r3;exact bB ⟨H3,I3,q3⟩
noncomputable def jX(r r':R2)(ta tb tc:TE):TE:=λσ H Q=>ta σ H λx H1=>tb σ H1 λy H2=>r x y H2 λz H3=>∃k,z=.bl k /\
 (if k=true then tc σ H3 λw' H4=>r' y w' H4 Q else Q (.bl false) H3)
theorem sN{op op':CmpOp}{r r':R2}(ho:OpR X (aQ op) r)(ho':OpR X (aQ op') r')(ha:PE X a ta)(hb:PE X b tb)(hc:PE X c tc)
  (hm:lastMarks [op,op'] [b,c]=false:=by with_unfolding_all rfl):PE X (.Compare a [op,op'] [b,c] pos) (jX r r' ta tb tc):=by
 intro pins s σ H Q I h;refine Compare_chain (thn (ha pins s σ H _ I h) λv s1 ⟨x,H1,I1,r1,q1⟩=>chain_link (thn (hb pins s1 σ H1 _ I1 q1) λu s2 ⟨y,H2,I2,r2,q2⟩=>
  thn (ho pins s2 σ H2 x y v u _ I2 r1 r2 q2) λd s3 ⟨z,H3,I3,r3,k,e,q3⟩=>?_)) hm
 subst e;cases r3;refine bB ?_;cases k with
 |false=>exact ite_ff ⟨.bl false,H3,I3,rfl,q3⟩
 |true=>exact ite_tt (chain_last (thn (hc pins s3 σ H3 _ I3 q3) λw' s4 ⟨z',H4,I4,r4,q4⟩=>ho' pins s4 σ H4 y z' u w' Q I4 r2 r4 q4))
theorem um{op op':CmpOp}{r r':R2}(ho:OpR X (aQ op) r)(ho':OpR X (aQ op') r')(ha:PE X a ta)(hb:PE X b tb)(hc:PE X c tc)
  (hm:lastMarks [op,op'] [b,c]=false:=by with_unfolding_all rfl):PT X (.Compare a [op,op'] [b,c] pos) (i8 (jX r r' ta tb tc)):=by
 intro pins s σ H Q I h;refine isTrue_chain (thn (ha pins s σ H _ I h) λv s1 ⟨x,H1,I1,r1,q1⟩=>test_link (thn (hb pins s1 σ H1 _ I1 q1) λu s2 ⟨y,H2,I2,r2,q2⟩=>
  thn (ho pins s2 σ H2 x y v u _ I2 r1 r2 q2) λd s3 ⟨z,H3,I3,r3,k,e,q3⟩=>?_)) hm
 subst e;cases r3;refine bB ?_;cases k with
 |false=>
  obtain⟨k',e',q'⟩:=q3;cases e';exact ite_ff ⟨H3,I3,q'⟩
 |true=>
  refine ite_tt (test_last (thn (hc pins s3 σ H3 _ I3 q3) λw' s4 ⟨z',H4,I4,r4,q4⟩=>thn (ho' pins s4 σ H4 y z' u w' _ I4 r2 r4 q4) λd' s5 ⟨z2,H5,I5,r5,k2,e2,q5⟩=>?_));subst e2;cases r5;exact bB ⟨H5,I5,q5⟩
noncomputable def jz(K:aq)(x:V)(H:Hp)(k:Bool):Prop:=
 match x with
 | .non=>k=false
 | .bl b=>k=b
 | .int i=>k=(i != 0)
 | .str y=>y.length<=aK/\k=((y.length:Int) != 0)
 | .byt y=>y.size<=aK/\k=((y.size:Int) != 0)
 | .ref p=>(∃xs,SqL K H p xs/\k = !xs.isEmpty)\/(∃xs,SqT K H p xs/\k = !xs.isEmpty)\/∃kvs,H p=some (.dK kvs)/\k = !kvs.isEmpty
 |_=>False
theorem AR{κ:Type}{kvs:List (κ×V)}{vs:List (κ×ae)}(r:KV kvs vs):(!vs.isEmpty) = !kvs.isEmpty:=by
 cases r<;>rfl
theorem nv{xs:List V}{its:List ae}(r:Vals xs its):(!its.toArray.isEmpty) = !xs.isEmpty:=by
 cases r<;>simp
theorem fk:(aK:Nat)<2^63:=by rw[a0];decide
theorem Ax:rR X (λx H Q=>∃k,jz X.K x H k/\Q k H):=by
 intro pins s σ H x v Q I rx h;obtain⟨k,e,q⟩:=h;have hl:=fk;have hs:aK=16777216:=a0;cases x with
 |non=>
  cases rx;have e':k=false:=e;subst e';exact truthy_none ⟨H,I,q⟩
 |bl b=>
  cases rx;have e':k=b:=e;subst e';exact bB ⟨H,I,q⟩
 |int i=>
  obtain⟨t,rfl⟩:=rx;have e':k=(i != 0):=e;subst e';exact PySem.P.truthy_int ⟨H,I,q⟩
 |str y=>
  obtain⟨t,rfl⟩:=rx;obtain⟨hy,e'⟩:y.length<=aK/\k=((y.length:Int) != 0):=e;subst e';exact PySem.P.truthy_str (by lia) ⟨H,I.tok _,q⟩
 |byt y=>
  obtain⟨t,rfl⟩:=rx;obtain⟨hy,e'⟩:y.size<=aK/\k=((y.size:Int) != 0):=e;subst e';exact PySem.W.truthy_bytes (by lia) ⟨H,I.tok _,q⟩
 |ref p=>
  cases rx;have e':(∃xs,SqL X.K H p xs/\k = !xs.isEmpty)\/(∃xs,SqT X.K H p xs/\k = !xs.isEmpty)\/∃kvs,H p=some (.dK kvs)/\k = !kvs.isEmpty:=e;rcases e' with ⟨xs,hx,e'⟩|⟨xs,hx,e'⟩|⟨kvs,hx,e'⟩
  ·subst e';obtain⟨its,r,pl,hz⟩:=I.list hx;have hlen:=r.length;exact wpAny_truthy_list pl.isList (by simp only[aO];lia) ⟨H,I.tok _,by rw[nv r];exact q⟩
  ·subst e';obtain⟨its,r,pl,hz⟩:=I.tuple hx;have hlen:=r.length;exact truthy_tuple pl (by simp only[aO];lia) ⟨H,I.tok _,by rw[nv r];exact q⟩
  ·subst e';obtain⟨hz,hS,vs,r,m⟩:kvs.length<=aK/\(p==sysModules)=false/\∃vs,KV kvs vs/\s.heap.DictOf (jb X.prog X.w) p vs:=I.hok p _ hx;have hlen:kvs.length=vs.length:=Paired.length r;exact wpAny_truthy_dict hS m (by lia) ⟨H,I.tok _,by rw[AR r];exact q⟩
 |_=>exact(show False from e).elim
theorem oy(ha:PE X a ta)(he:∀whole,isTrue a X.env whole=(do let v <-whole;standAt a.pos;holding [v] (truthy v))) :
  PT X a (λσ H Q=>ta σ H λx H'=>∃k,jz X.K x H' k/\Q k H'):=by
 intro pins s σ H Q I h;exact isTrue_plain (thn (ha pins s σ H _ I h) λv s1 ⟨x,H1,I1,r1,q1⟩=>Ax pins s1 σ H1 x v Q I1 r1 q1) (he _)
theorem vals1{x:V}{us:List ae}(r:Vals [x] us):∃u,us=[u]/\RelV x u:=by
 cases r with
 |cons r1 r2=>cases r2;exact⟨_,rfl,r1⟩
theorem vals2{x y:V}{us:List ae}(r:Vals [x,y] us):∃u w',us=[u,w']/\RelV x u/\RelV y w':=by
 cases r with
 |cons r1 r2=>
  cases r2 with
  |cons r3 r4=>cases r4;exact⟨_,_,rfl,r1,r3⟩
theorem pO(hc:X.calm=true):zg X (.builtin "max") (λxs H Q=>∃i j,xs=[.int i,.int j]/\Q (.int (if j>i then j else i)) H):=by
 intro pins s σ H xs us Q I r h;obtain⟨i,j,rfl,q⟩:=h;obtain⟨u,w',rfl,⟨t,rfl⟩,⟨t',rfl⟩⟩:=vals2 r;refine max_two_ints (I.ok.hd hc) λh' tk k=>⟨_,H,I.kept k,?_,q⟩
 by_cases hj:j>i
 ·rw[if_pos hj,if_pos hj];exact⟨_,rfl⟩
 ·rw[if_neg hj,if_neg hj];exact⟨_,rfl⟩
theorem yG(hc:X.calm=true):zg X (.builtin "min") (λxs H Q=>∃i j,xs=[.int i,.int j]/\Q (.int (if j<i then j else i)) H):=by
 intro pins s σ H xs us Q I r h;obtain⟨i,j,rfl,q⟩:=h;obtain⟨u,w',rfl,⟨t,rfl⟩,⟨t',rfl⟩⟩:=vals2 r;refine min_two_ints (I.ok.hd hc) λh' tk k=>⟨_,H,I.kept k,?_,q⟩
 by_cases hj:j<i
 ·rw[if_pos hj,if_pos hj];exact⟨_,rfl⟩
 ·rw[if_neg hj,if_neg hj];exact⟨_,rfl⟩
end
structure iZ(h:Heap)(x dx C:Addr)(mA:Str->Option ae):Prop where
 obj:h.get? x=some (PySem.W.instObj C dx)
 ns:h.Ns1 dx mA
 ne:dx≠x
theorem uX{h:Heap}{dx:Addr}{mA:Str->Option ae}(n:h.Ns1 dx mA):∃od,h.get? dx=some od/\∀name,PySem.W.lookIn name od=some (mA name):=by
 obtain⟨o,es,ep,ho,hd,hk,_,hm⟩:=n;refine⟨o,ho,λname=>?_⟩;have e:=hm name;unfold nsFind findBy at e;rw[<-Array.find?_toList]at e;unfold PySem.W.lookIn;rw[hd];dsimp only;split
 ·rename_i y q
  rw[q]at e;exact congrArg some e
 ·rename_i q
  rw[q]at e;have a:es.toList.any (·.refKey)=false:=by
   rw[List.any_eq_false];intro y hy;obtain⟨z,t,hkey⟩:=hk y (Array.mem_toList_iff.mp hy);simp[DictEntry.refKey,hkey]
  have a':¬ es.toList.any (·.refKey)=true:=by rw[a];exact bS
  rw[if_neg a'];exact congrArg some e
theorem iZ.look{h:Heap}{x dx C:Addr}{mA:Str->Option ae}(I:iZ h x dx C mA):∃od,PySem.W.InstAt h x (PySem.W.instObj C dx) C (some od)/\∀name,PySem.W.lookIn name od=some (mA name):=
 let ⟨od,ho,hl⟩:=uX I.ns
 ⟨od,⟨I.obj,rfl,rfl,ho⟩,hl⟩
section
variable{prog:av}{w:au}{A:aw}{E:ae->af->Prop}{s:af}{K:aq}{x dx C f:Addr}{mA:Str->Option ae}{name:Str}{v:ae}
end
section
variable{P:av}{w:au}{H H':Hp}{h h':Heap}{a C dx:Addr}{fs fs':List (Str×V)}
theorem uW(hok:HOk P w H h)(e:H a=some (.ins C dx fs)):∃mA,iZ h a dx C mA/\(∀f,fC (fs.lookup f) (mA f))/\PySem.Within mA (fs.map (·.1))/\fs.length<=1000/\H dx=some (.own a):=by
 obtain⟨d,z,ne,ob,mA,n,r,q⟩:=(show zy P w H h a (.ins C dx fs)from hok a _ e)
 exact⟨mA,⟨ob,n,ne⟩,r,q,z,d⟩
end
structure Cls(K:aq)(C:Addr):Prop where
 pg:PySem.W.plainGet K C Str.empty=true
 hd:PySem.W.hasDictIn K C=true
 po:PySem.W.plainOver K C=true
 sa:PySem.W.findIn K (.ref C) "__setattr__" = some (some (.builtin "object.__setattr__"))
theorem Cls.get{K:aq}{C:Addr}(c:Cls K C)(f:Str):PySem.W.plainGet K C f=true:=c.pg
section
variable{X:Cx}{pins:List (Addr×Obj)}{σ:St}{H:Hp}{s:af}{a C dx:Addr}{fs:List (Str×V)}{f:Str}{v:V}{A:aw}{E:ae->af->Prop}
theorem rW{prog:av}{w:au}{env:Env}{e:Expr}{f:Str}{pos:Pos}{s:af}{Q:ae->af->Prop}(hb:attributeBase e f env (eval e env)=eval e env)
  (h:ai (aj prog w) A (eval e env) (λo s₁=>ai (aj prog w) A (getAttr o f true) Q E s₁) E s):ai (aj prog w) A (eval (.Attribute e f pos) env) Q E s:=
 Attribute_any_ h (by rw[arm_eval_Attribute,hb])
end
section
variable{X:Cx}{o e value:Expr}{f:Str}{pos pos' tpos:Pos}{ta tv:TE}
end
section
variable{X:Cx}{pins:List (Addr×Obj)}{σ:St}{H:Hp}{s:af}{A:aw}{E:ae->af->Prop}{Q:ae->af->Prop}{c:ae}{b:Bool}
inductive cF(K:aq)(H:Hp):V->ae->Prop where
 |non:cF K H .non (.type "NoneType")
 |bl (x:Bool):cF K H (.bl x) (.type "bool")
 |int (i:Int):cF K H (.int i) (.type "int")
 |str (x:Str):cF K H (.str x) (.type "str")
 |flt (x:UInt64):cF K H (.flt x) (.type "float")
 |lst {a:Addr}{xs:List V} (e:H a=some (.lst xs)):cF K H (.ref a) (.type "list")
 |frz {a:Addr}{o:Obj}{xs:List V} (e:H a=some (.frz o (.lst xs))):cF K H (.ref a) (.type "list")
 |tup {a:Addr}{xs:List V} (e:H a=some (.tup xs)):cF K H (.ref a) (.type "tuple")
 |dK {a:Addr}{kvs:List (Key×V)} (e:H a=some (.dK kvs)):cF K H (.ref a) (.type "dict")
 |dT {a:Addr}{kvs:List (List Key×V)} (e:H a=some (.dT kvs)):cF K H (.ref a) (.type "dict")
 |ins {a C dx:Addr}{fs:List (Str×V)} (e:H a=some (.ins C dx fs)) (cl:Cls K C) (ha:PySem.W.findIn K (.ref C) "__class__" = some (some (.builtin "object.__class__")))
   (hn:PySem.W.specialIn K (.builtin "object.__class__") "__get__" = some (some (.builtin "getset_descriptor.__get__"))) (htk:PySem.W.takesIn K (.builtin "object.__class__")=some true)
   (hm:PySem.W.mroIn K C (.type "object")=some true):cF K H (.ref a) (.ref C)
theorem fh{x:V}{u t:ae}(I:Inv X pins σ H s)(rx:RelV x u)(ty:cF X.K H x t)(e:a_ X.K t c=some b)(h:∀tk,Q (.bool b) {s with toks:=tk}) :
  ai (aj X.prog X.w) A (call (.builtin "isinstance") [u,c]) Q E s:=by
 cases ty with
 |non=>cases (show u=bf from rx);exact bC PySem.W.kitx_none I.kIn True.intro e (λz=>nomatch z) h
 |bl y=>cases (show u=bp y from rx);exact bC PySem.W.kitx_bool I.kIn True.intro e (λz=>nomatch z) h
 |int i=>obtain⟨t,q⟩:=(show ∃t,u=ae.int i t from rx);cases q;exact bC PySem.W.kitx_int I.kIn True.intro e (λz=>nomatch z) h
 |str y=>obtain⟨t,q⟩:=(show ∃t,u=ae.str y t from rx);cases q;exact bC PySem.W.kitx_str I.kIn True.intro e (λz=>nomatch z) h
 |flt y=>obtain⟨t,q⟩:=(show ∃t,u=ae.float y t from rx);cases q;exact bC PySem.W.kitx_float I.kIn True.intro e (λz=>nomatch z) h
 | @lst a xs ea=>
  cases (show u=aR a from rx);obtain⟨_,_,n,_,h1⟩:=(show zy X.prog X.w H s.heap a (.lst xs)from I.hok a _ ea)
  exact bC PySem.W.kitx_list I.kIn ⟨_,h1,rfl⟩ e (λz=>nomatch z) h
 | @frz a ob xs ea=>
  cases (show u=aR a from rx);obtain⟨_,_,_,n,_,h1⟩:=(show zy X.prog X.w H s.heap a (.frz ob (.lst xs))from I.hok a _ ea)
  exact bC PySem.W.kitx_list I.kIn ⟨_,h1,rfl⟩ e (λz=>nomatch z) h
 | @tup a xs ea=>
  cases (show u=aR a from rx);obtain⟨_,_,_,p⟩:=(show zy X.prog X.w H s.heap a (.tup xs)from I.hok a _ ea)
  obtain⟨o,h1,h2,_⟩:=p;exact bC PySem.W.kitx_tuple I.kIn ⟨o,h1,h2⟩ e (λz=>nomatch z) h
 | @dK a kvs ea=>
  cases (show u=aR a from rx);obtain⟨_,_,vs,_,p⟩:=(show zy X.prog X.w H s.heap a (.dK kvs)from I.hok a _ ea)
  obtain⟨o,es,ep,h1,h2,_⟩:=p;exact bC PySem.W.kitx_dict I.kIn ⟨o,h1,h2.1⟩ e (λz=>nomatch z) h
 | @dT a kvs ea=>
  cases (show u=aR a from rx);obtain⟨_,_,xs,_,o,es,ep,h1,h2,_⟩:=(show zy X.prog X.w H s.heap a (.dT kvs)from I.hok a _ ea)
  exact bC PySem.W.kitx_dict I.kIn ⟨o,h1,h2.1⟩ e (λz=>nomatch z) h
 | @ins a C dx fs ea cl ha hn htk hm=>
  cases (show u=aR a from rx);obtain⟨mA,O,_⟩:=uW I.hok ea;obtain⟨od,J,_⟩:=O.look;exact bC (PySem.W.kitx_own (cl.get _) cl.hd ha hn htk hm) I.kIn J e (λz=>nomatch z) h
end
structure bP(k:Nat)(A:aw):Prop where
 hd:A.handled=none
 dp:A.depth+3 * k+5<recursionLimit
 un:A.units+16 * k+200<cLine
theorem bP.deeper{k:Nat}{A:aw}(r:bP (k+1) A)(env:Env):bP k (A.deeper env):=
 ⟨r.hd,by have:=r.dp;show A.depth+1+3 * k+5<_;lia,by have:=r.un;show A.units+3+16 * k+200<_;lia⟩
theorem bP.depth{k:Nat}{A:aw}(r:bP k A):A.depth<recursionLimit:=by have:=r.dp;lia
theorem bP.units{k:Nat}{A:aw}(r:bP k A):A.units+64<cLine:=by have:=r.un;lia
noncomputable def gS:TA:=λ_ H Q=>Q [] H
noncomputable def fi(ta:TE)(tr:TA):TA:=λσ H Q=>ta σ H λx H1=>tr σ H1 λxs H2=>Q (x::xs) H2
section
variable{X:Cx}{e:Expr}{es:List Expr}{te:TE}{t:TA}{pos:Pos}
theorem cY:PA X [] gS:=λ_ _ _ _ H Q I h=>Calls.spliced_nil ⟨[],H,I,.nil,h⟩
theorem zL(ha:PE X e te)(hr:PA X es t)(hs:aH (e::es) X.env=(false,eval e X.env)::aH es X.env:=by rfl):PA X (e::es) (fi te t):=by
 intro pos pins s σ H Q I h;rw[hs];show ai _ _ (spliced ((false,eval e X.env)::backTo pos (aH es X.env))) _ _ s;refine Calls.spliced_cons (thn (ha pins s σ H _ I h) λu s1 ⟨x,H1,I1,r1,q1⟩=>?_);exact thn (hr pos pins s1 σ H1 _ I1 q1) λus s2 ⟨xs,H2,I2,r2,q2⟩=>⟨x::xs,H2,I2,.cons r1 r2,q2⟩
noncomputable def xt(t:TA):TE:=λσ H Q=>t σ H λxs H1=>xs.length<=aK/\∀p,H1 p=none->Q (.ref p) (upd H1 p (.tup xs))
noncomputable def rH(t:TA):TE:=λσ H Q=>t σ H λxs H1=>xs.length<=aK/\∀p,H1 p=none->Q (.ref p) (upd H1 p (.lst xs))
theorem om{x1}(h:PA X es t):PE X (.Tuple es x1 pos) (xt t):=by
 intro pins s σ H Q I hq;refine wpAny_Tuple_spliced (thn (h pos pins s σ H _ I hq) λus s1 ⟨xs,H1,I1,r,z,q⟩=>⟨by rw[<-r.length];exact z,?_⟩);have hf:H1 s1.heap.objs.size=none:=I1.hok.fresh (aF _);refine⟨.ref s1.heap.objs.size,upd H1 s1.heap.objs.size (.tup xs),I1.laid (t':=s1.toks) (λb u e=>Heap.get?_push_of_some _ e) (aF _) ?_,rfl,q _ hf⟩;exact⟨z,us,r,⟨_,Heap.get?_push_size _ rfl,rfl,_,rfl⟩⟩
theorem wg(h:PA X es t):PE X (.List es pos) (rH t):=by
 intro pins s σ H Q I hq;refine wpAny_List_spliced (thn (h pos pins s σ H _ I hq) λus s1 ⟨xs,H1,I1,r,z,q⟩=>⟨by rw[<-r.length];exact z,?_⟩);have hf:H1 s1.heap.objs.size=none:=I1.hok.fresh (aF _);refine⟨.ref s1.heap.objs.size,upd H1 s1.heap.objs.size (.lst xs),I1.laid (t':=s1.toks) (λb u e=>Heap.get?_push_of_some _ e) (aF _) ?_,rfl,q _ hf⟩;exact⟨z,us,0,r,Heap.get?_push_size _ rfl⟩
end
abbrev Sp:=List V->Hp->VK->XK->Prop
abbrev CXT:=List Env->Hp->af->XK->ae->af->Prop
structure ee(P:av)(w:au)(K:aq)(mg:Str->Option ae)(base:Heap)(A:aw)(outer:List Env)(s:af)(H:Hp):Prop where
 frames:A.frames=some outer
 mod:Mod K mg base
 bs:∀b o,base.get? b=some o->s.heap.get? b=some o/\H b=none
 bsz:base.objs.size<=s.heap.objs.size
 funs:s.heap.FunFrames base outer
 frf:∀b∈frs outer,H b=none
 hok:HOk P w H s.heap
 bare:AllBare s.gens
noncomputable def CE(outer:List Env)(P:av)(w:au)(H:Hp)(s:af)(Q:VK)(u:ae)(s':af):Prop:=
 ∃v H',s'.os=s.os/\AllBare s'.gens/\Un (frs outer) [] H H' s.heap s'.heap/\HOk P w H' s'.heap/\RelV v u/\Q v H'
noncomputable def CR(CX:CXT)(outer:List Env)(P:av)(w:au)(H:Hp)(s:af)(Q:VK)(E:XK)(r:Result)(s':af):Prop:=
 match r with
 | .ok (.ret u)=>CE outer P w H s Q u s'
 | .ok _=>False
 | .error e=>CX outer H s E e s'
structure dO(P:av)(w:au)(K:aq)(mg:Str->Option ae)(base:Heap)(CX:CXT)(k:Nat)(f:Addr)(fd:bw)(ps:List Str)(sp:Sp):Prop where
 len:∀vs H Q E,sp vs H Q E->vs.length=ps.length
 run:∀(A:aw) (outer:List Env) (s:af) (H:Hp) (args:Args) (us:List ae) (vs:List V) (Q:VK) (E:XK),bP k A->ee P w K mg base A outer s H->BindsTo s fd args (ps.zip us)->Vals vs us->sp vs H Q E ->
  codeAny (aj P w) A (.call (.ref f) args) (CR CX outer P w H s Q E) s
section
variable{X:Cx}{pins:List (Addr×Obj)}{σ:St}{H:Hp}{s s':af}
theorem Inv.env0(I:Inv X pins σ H s):ee X.prog X.w X.K X.mg X.base X.A X.stack s H:=
 ⟨I.ok.frames,I.ok.mod,I.bs,aZ I.ok.bsz I.sz,I.stack,I.stkFree,I.hok,I.bare⟩
theorem Inv.after{Q:VK}{u:ae}(I:Inv X pins σ H s)(h:CE X.stack X.prog X.w H s Q u s'):EP X pins σ Q u s':=by
 obtain⟨v,H',os,bare,un,hok,r,q⟩:=h;obtain⟨hh,g,d,t,os'⟩:=s';obtain rfl:os'=s.os:=os;exact⟨v,H',I.call (h':=hh) (g':=g) (d':=d) (t':=t) (ch:=[]) un hok bare (λb z=>absurd z (by simp)),r,q⟩
end
noncomputable def i'(sp:Sp)(dvs:List V)(E:XK)(t:TA):TE:=λσ H Q=>t σ H λvs H1=>sp (vs++dvs) H1 Q E
noncomputable def Binds(K:aq)(fd:bw)(ps:List Str)(ds:List ae):Prop:=
 ∀(s:af) (us:List ae),K.In s.heap->(us++ds).length=ps.length->BindsTo s fd ⟨us,[]⟩ (ps.zip (us++ds))
theorem Binds.all{K:aq}{fd:bw}{ps:List Str}(h:∀us:List ae,us.length=ps.length->bindArgs fd ⟨us,[]⟩=pure (ps.zip us)):Binds K fd ps []:=λs us _ hl=>by
 rw[List.append_nil]at hl ⊢;exact .of_eq (h us hl)
noncomputable def Passes(CX:CXT)(X:Cx)(E:XK):Prop:=∀(pins:List (Addr×Obj)) (σ:St) (H:Hp) (s:af) (e:ae) (s':af),Inv X pins σ H s->CX X.stack H s E e s'->X.xe e s'
section
variable{X:Cx}{CX:CXT}{k:Nat}{f C:Addr}{fd:bw}{ps:List Str}{sp:Sp}{dvs:List V}{ds:List ae}{E:XK}{x m:Str}{p pos apos:Pos}{e o:Expr}{es:List Expr}{ta:TE}{t:TA}
theorem pM{pins:List (Addr×Obj)}{σ:St}{H:Hp}{s:af}{Q:VK}{us:List ae}{vs:List V}(F:dO X.prog X.w X.K X.mg X.base CX k f fd ps sp)(hr:bP k X.A)(hb:Binds X.K fd ps ds)(hd:Vals dvs ds)(hx:Passes CX X E)
  (I:Inv X pins σ H s) (r:Vals vs us) (h:sp (vs++dvs) H Q E):ai (aj X.prog X.w) X.A (call (.ref f) us) (EP X pins σ Q) X.xe s:=by
 have r2:Vals (vs++dvs) (us++ds):=r.append hd;have hl:(us++ds).length=ps.length:=by rw[<-r2.length];exact F.len _ _ _ _ h
 refine wpAny_call (codeAny_mono (F.run X.A X.stack s H ⟨us,[]⟩ (us++ds) (vs++dvs) Q E hr I.env0 (hb s us I.kIn hl) r2 h) λr s' hq=>?_);cases r with
 |error e=>exact hx pins σ H s e s' I hq
 |ok fl=>
  cases fl with
  |ret u=>exact I.after hq
  |next=>exact aP hq
  |brk=>exact aP hq
  |cont=>exact aP hq
theorem wD(F:dO X.prog X.w X.K X.mg X.base CX k f fd ps sp)(hr:bP k X.A)(hg:Gl X x)(hm:X.mg x=some (.ref f))(hk:bT X.K (.ref f)=true)(hb:Binds X.K fd ps ds)(hd:Vals dvs ds)(hx:Passes CX X E)
  (ha:PA X (e::es) t) (hdb:(x==("__debug__" : Str))=false:=by decide) (he:aH (e::es) X.env=(false,eval e X.env)::aH es X.env:=by rfl) (hpl:(backTo pos (aH es X.env)).any (·.1)=false:=by rfl) :
  PE X (.Call (.Name x p) (e::es) [] pos) (i' sp dvs E t):=by
 intro pins s σ H Q I h;refine wpAny_Call_Name_kw (d_ I hg hm ?_ hdb);refine PySem.W.callWith_K (h₀:=X.base) I.ok.mod.kin hk (thn (ha pos pins s σ H _ I h) λus s1 ⟨vs,H1,I1,r,q⟩=>⟨I1.kIn,?_⟩) he hpl;exact pM F hr hb hd hx I1 r q
end
section
variable{X:Cx}{CX:CXT}{k:Nat}{f C:Addr}{fd:bw}{ps ks:List Str}{sp:Sp}{E:XK}{x m:Str}{p pos apos kpos:Pos}{e o:Expr}{es:List Expr}{kws:List Keyword}{te ta:TE}{t tk:TA}{nm:Option Str}
variable{g:List ae->List ae->List ae}{gV:List V->List V->List V}
end
structure eB(N P:List Str)(sc:aN):Prop where
 kind:sc.kind=.function
 co:sc.isCoroutine=false
 gen:sc.isGenerator=false
 nd:N.Nodup
 pre:N.take P.length=P
 par:∀x∈P,sc.names.lookup x=some .local\/sc.names.lookup x=some .cell
 nofree:∀y∈sc.names,y.2≠.free
theorem lU{kindOf:Str->Option aM}{x:Str}:∀{binds:List (Str×ae)}{m:Str->Option ae},(∀v,(x,v)∉binds)->bindL kindOf binds m x=m x
 | [],_,_=>rfl
 | (n,v)::r,m,h=>by
  unfold bindL;rw[lU λw hw=>h w (aI _ hw)];split
  ·have:x≠n:=by rintro rfl;exact h v aL
   simp[this]
  ·rfl
theorem ku{kindOf:Str->Option aM}{x:Str}:∀{binds:List (Str×ae)}{m:Str->Option ae},(∀v,(x,v)∉binds)->bindC kindOf binds m x=m x
 | [],_,_=>rfl
 | (n,v)::r,m,h=>by
  unfold bindC;rw[ku λw hw=>h w (aI _ hw)];split
  ·rfl
  ·have:x≠n:=by rintro rfl;exact h v aL
   simp[this]
theorem jn{kindOf:Str->Option aM}{x:Str}{v:ae}:∀{P:List Str}{vs:List ae}{i:Nat}{m:Str->Option ae},P.Nodup->P[i]? = some x->vs[i]? = some v->kindOf x=some .local ->
  bindL kindOf (P.zip vs) m x=some v
 | [],_,_,_,_,h,_,_=>by simp at h
 |_::_,[],_,_,_,_,h,_=>by simp at h
 |p::P,w::vs,0,m,nd,h1,h2,hk=>by
  simp at h1 h2;subst h1;subst h2;show bindL kindOf ((p,w)::P.zip vs) m p=_;unfold bindL;rw[lU λv hv=>(List.nodup_cons.mp nd).1 (List.of_mem_zip hv).1,if_pos hk];simp
 |p::P,w::vs,i+1,m,nd,h1,h2,hk=>by
  show bindL kindOf ((p,w)::P.zip vs) m x=_;unfold bindL;exact jn (i:=i) (List.nodup_cons.mp nd).2 (by simpa using h1) (by simpa using h2) hk
theorem ll{kindOf:Str->Option aM}{x:Str}{v:ae}:∀{P:List Str}{vs:List ae}{i:Nat}{m:Str->Option ae},P.Nodup->P[i]? = some x->vs[i]? = some v->kindOf x≠some .local ->
  bindC kindOf (P.zip vs) m x=some v
 | [],_,_,_,_,h,_,_=>by simp at h
 |_::_,[],_,_,_,_,h,_=>by simp at h
 |p::P,w::vs,0,m,nd,h1,h2,hk=>by
  simp at h1 h2;subst h1;subst h2;show bindC kindOf ((p,w)::P.zip vs) m p=_;unfold bindC;rw[ku λv hv=>(List.nodup_cons.mp nd).1 (List.of_mem_zip hv).1,if_neg hk];simp
 |p::P,w::vs,i+1,m,nd,h1,h2,hk=>by
  show bindC kindOf ((p,w)::P.zip vs) m x=_;unfold bindC;exact ll (i:=i) (List.nodup_cons.mp nd).2 (by simpa using h1) (by simpa using h2) hk
noncomputable def start(N:List Str)(vs:List V):St:=vs.map some++bD (N.length-vs.length) none
noncomputable def cU(CX:CXT)(P:av)(w:au)(K:aq)(mg:Str->Option ae)(base:Heap)(N:List Str)(qual:Str)(scope:aN)(f:Addr)(cd:ae)(A:aw)(outer:List Env)(s:af)(H:Hp)(E:XK):Cx where
 prog:=P
 w:=w
 K:=K
 mg:=mg
 base:=base
 A:=A.deeper (envOfC qual scope s.heap.objs.size f cd)
 N:=N
 s₀:=s
 H₀:=H
 env:=envOfC qual scope s.heap.objs.size f cd
 outer:=outer
 stack:=envOfC qual scope s.heap.objs.size f cd::outer
 ex:=[]
 calm:=true
 fn:=λ_=>true
 pn:=[]
 xe:=λe s'=>ai (aj P w) (A.deeper (envOfC qual scope s.heap.objs.size f cd)) (leaving (envOfC qual scope s.heap.objs.size f cd) e) (λ_ s''=>CX outer H s E e s'') (λe' s''=>CX outer H s E e' s'') s'
theorem hJ{sc:aN}{n:Nat}{x:Str}(h:sc.names.lookup x=some .cell):∃c,(aU n sc.names []).lookup x=some c:=by
 have q:=PySem.W.cellsFrom_some sc.names n [] (.inl h);exact Option.isSome_iff_exists.mp q
theorem lZ{CX:CXT}{P:av}{w:au}{K:aq}{mg:Str->Option ae}{base:Heap}{N ps:List Str}{qual:Str}{scope:aN}{f:Addr}{cd:ae}{A:aw}{outer:List Env}{s s1:af}{H:Hp}{E:XK}{us:List ae}{vs:List V}
  (S:eB N ps scope) (hd:A.handled=none) (e0:ee P w K mg base A outer s H) (hl:vs.length=ps.length) (r:Vals vs us)
  (x:InCallC s s.heap.objs.size (bindL (envOfC qual scope s.heap.objs.size f cd).kindOf (ps.zip us) λ_=>none) (aU (s.heap.objs.size+1) scope.names []) (bindC (envOfC qual scope s.heap.objs.size f cd).kindOf (ps.zip us) λ_=>none) s1) :
  Inv (cU CX P w K mg base N qual scope f cd A outer s H E) [] (start N vs) H s1:=by
 have hpl:ps.length<=N.length:=by have:=congrArg List.length S.pre;rw[List.length_take]at this;lia
 obtain⟨h1,tk,rfl,hk⟩:=x.done;have noA:∀b:Addr,b∉(cU CX P w K mg base N qual scope f cd A outer s H E).ex:=λb z=>absurd (show b∈([]:List Addr)from z) (by simp)
 refine⟨⟨e0.mod,S.kind,rfl,rfl,aF _,λy z c h1 h2=>?_,λy hy=>?_,λy c _ h=>?_,λ_=>hd,aw.frames_deeper e0.frames,.inr ⟨rfl,rfl⟩,λb z=>absurd z (noA b),e0.bs,e0.bsz,λb _ _=>noA b,λb z=>absurd z (noA b),e0.funs,e0.frf⟩,
  rfl,e0.bare,Un.kept hk,⟨_,x.toInCall.ns,λi y v h1 h2 h3=>?_⟩,λy c h=>⟨_,x.cell y c h⟩,e0.hok.fresh (aF _),λy c h=>?_,λp hp=>absurd (show p∈([]:List (Addr×Obj))from hp) (by simp),e0.hok.kept hk,?_⟩
 ·exact name_of_addr x.apart (bR h1) (bR h2)
 ·have hy:scope.names.lookup y=some .cell\/scope.names.lookup y=some .free:=hy;rcases hy with hy|hy
  ·exact hJ hy
  ·exact absurd rfl (S.nofree _ (bR hy))
 ·exact Nat.le_of_lt (x.above y c (bR h))
 ·have hi:i<vs.length:=by
   unfold start at h2;by_cases hi:i<vs.length
   ·exact hi
   ·rw[List.getElem?_append_right (by simpa using hi)]at h2;rw[List.getElem?_replicate]at h2;split at h2<;>cases h2
  have ha:vs[i]? = some v:=by
   unfold start at h2;rw[List.getElem?_append_left (by simpa using hi),List.getElem?_map]at h2;cases e:vs[i]? with
   |none=>rw[e]at h2;cases h2
   |some a=>rw[e]at h2;cases h2;rfl
  obtain⟨u,hu,rv⟩:=r.get ha;have hp:ps[i]? = some y:=by
   rw[<-S.pre,List.getElem?_take_of_lt (by lia)];exact h1
  have ndP:ps.Nodup:=by rw[<-S.pre];exact S.nd.sublist (List.take_sublist _ _)
  refine⟨u,rv,?_⟩;rcases S.par y (List.mem_of_getElem? hp)with k|k
  ·exact .inl ⟨k,jn ndP hp hu k⟩
  ·obtain⟨c,e⟩:=hJ (n:=s.heap.objs.size+1) k;refine .inr ⟨.inl k,c,e,?_⟩;have q:=x.cell y c e;rw[ll ndP hp hu (by show scope.names.lookup y≠_;rw[k];decide)]at q;exact q
 ·exact e0.hok.fresh (Nat.le_of_lt (x.above y c (bR h)))
 ·unfold start;show _=N.length;rw[b_,aW,List.length_replicate];lia
theorem oV{CX:CXT}{P:av}{w:au}{K:aq}{mg:Str->Option ae}{base:Heap}{k:Nat}{f:Addr}{name qual:Str}{params:Arguments}{body:List Stmt}{scope:aN}{dV kV doc pm cdv ct oc:ae}{an od:Option Addr}
  {osl:Array (Option ae)}{N ps:List Str}{sp:Sp} (lk:K.lookup f=some ⟨oc,od,.func (bJ name qual params body scope dV kV doc pm an cdv ct),osl⟩) (hcd:PySem.W.codeIn K cdv qual=true) (S:eB N ps scope)
  (len:∀vs H Q E,sp vs H Q E->vs.length=ps.length)
  (hbody:∀(A:aw) (outer:List Env) (s:af) (H:Hp) (vs:List V) (Q:VK) (E:XK),bP k (A.deeper (envOfC qual scope s.heap.objs.size f cdv))->sp vs H Q E ->
   ∃t,PSs (cU CX P w K mg base N qual scope f cdv A outer s H E) body t/\t {nx:=λ_ H'=>Q .non H',rt:=Q} (start N vs) H) :
  dO P w K mg base CX (k+1) f (bJ name qual params body scope dV kV doc pm an cdv ct) ps sp:=by
 refine⟨len,λA outer s H args us vs Q E hr e0 hb r hsp=>?_⟩;have hl:=len _ _ _ _ hsp;have KX:K.In s.heap:=e0.mod.kin.keeps λb o e=>(e0.bs b o e).1
 have lim:s.heap.NoLimit:=e0.mod.nolimit.keeps λb o e=>(e0.bs b o e).1
 have hkind:∀y∈ps.zip us,scope.names.lookup y.1=some .local\/(scope.names.lookup y.1=some .cell/\((aU (s.heap.objs.size+1) scope.names []).lookup y.1).isSome=true):=λ⟨n,v⟩ hy=>by
  rcases S.par n (List.of_mem_zip hy).1 with q|q
  ·exact .inl q
  ·exact .inr ⟨q,PySem.W.cellsFrom_some _ _ _ (.inl q)⟩
 refine codeAny_call_function hr.depth (KX _ _ lk) rfl S.co S.gen rfl (PySem.W.codeRec_of KX hcd) (hb _ _ _ _ ?_);refine wpAny_newFunctionEnv_cells S.kind hkind λenv he s1 x=>?_
 subst he;refine⟨lim.keeps x.toInCall.keep,codeAny_func ?_⟩;obtain⟨t,ht,hq⟩:=hbody A outer s H vs Q E (hr.deeper _) hsp;have I:Inv (cU CX P w K mg base N qual scope f cdv A outer s H E) [] (start N vs) H s1:=lZ S hr.hd e0 hl r x;refine bu (ht [] s1 (start N vs) H _ I hq) (λfl s' hs=>?_) λe s' hs=>hs
 have fin:∀{σ':St}{H':Hp}{v:V}{u:ae},Inv (cU CX P w K mg base N qual scope f cdv A outer s H E) [] σ' H' s'->RelV v u->Q v H'->CE outer P w H s Q u s':=
  λ{σ' H' v u} J rv q=>⟨v,H',J.os,J.bare,J.base,J.hok,rv,q⟩
 cases fl with
 |ret u=>
  obtain⟨v,σ',H',J,rv,q⟩:=hs;exact fin J rv q
 |next=>
  obtain⟨σ',H',J,q⟩:=hs;exact fin (v:=V.non) (u:=bf) J rfl q
 |brk=>
  obtain⟨_,_,_,q⟩:=hs;exact aP q
 |cont=>
  obtain⟨_,_,_,q⟩:=hs;exact aP q
section
variable{X:Cx}{x:Str}{p pos:Pos}{e:Expr}{es:List Expr}{t:TA}{id T:String}{r:List V->Hp->VK->Prop}
noncomputable def tCB(r:List V->Hp->VK->Prop)(t:TA):TE:=λσ H Q=>t σ H λvs H1=>r vs H1 Q
theorem l8(hc:zg X (.builtin id) r)(hg:Gl X x)(hm:X.mg x=none)(hv:bx x=some (.builtin id))(ha:PA X (e::es) t)(hn:x≠"__name__":=by decide)(hdb:(x==("__debug__" : Str))=false:=by decide)
  (he:aH (e::es) X.env=(false,eval e X.env)::aH es X.env:=by rfl) (hpl:(backTo pos (aH es X.env)).any (·.1)=false:=by rfl):PE X (.Call (.Name x p) (e::es) [] pos) (tCB r t):=by
 intro pins s σ H Q I h;refine wpAny_Call_Name_kw (ez I hg hm hv ?_ hn hdb);exact PyProof.Rows.callWith_builtin1 (thn (ha pos pins s σ H _ I h) λus s1 ⟨vs,H1,I1,r1,q1⟩=>hc pins s1 σ H1 vs us Q I1 r1 q1) he hpl
theorem pJ(hc:zg X (.type T) r)(hg:Gl X x)(hm:X.mg x=none)(hv:bx x=some (.type T))(ha:PA X (e::es) t)(hn:x≠"__name__":=by decide)(hdb:(x==("__debug__" : Str))=false:=by decide)
  (he:aH (e::es) X.env=(false,eval e X.env)::aH es X.env:=by rfl) (hpl:(backTo pos (aH es X.env)).any (·.1)=false:=by rfl):PE X (.Call (.Name x p) (e::es) [] pos) (tCB r t):=by
 intro pins s σ H Q I h;refine wpAny_Call_Name_kw (ez I hg hm hv ?_ hn hdb);exact dC (thn (ha pos pins s σ H _ I h) λus s1 ⟨vs,H1,I1,r1,q1⟩=>hc pins s1 σ H1 vs us Q I1 r1 q1) he hpl
end
end L2
namespace HT
open PySem PyProof.Rows
noncomputable def lexLt:List Int->List Int->Bool
 | [],[]=>false
 | [],_::_=>true
 |_::_,[]=>false
 |x::xs,y::ys=>if x=y then lexLt xs ys else decide (x<y)
theorem vo(x y:Int)(xs ys:List Int):lexLt (x::xs) (y::ys)=if x=y then lexLt xs ys else decide (x<y):=rfl
theorem xl:lexLt [] []=false:=rfl
theorem yo(y:Int)(ys:List Int):lexLt [] (y::ys)=true:=rfl
theorem yu(x:Int)(xs:List Int):lexLt (x::xs) []=false:=rfl
theorem rh(A:aw)(s:af)(a:Int)(t:Tok)(c:Int)(u:Tok):∃e,SeqAt.EqAt A s (.int a t) (.int c u) e/\(e=true↔a=c):=
 ⟨(a==c),SeqAt.EqAt.int_int a t c u,by simp⟩
theorem tm(A:aw)(s:af)(a:Int)(t:Tok)(c:Int)(u:Tok)(prog:av)(w:au)(E:ae->af->Prop)(Q:ae->af->Prop)(h:Q (.bool (decide (a<c))) s) :
  ai (aj prog w) A (richCompare .Lt (.int a t) (.int c u)) Q E s:=
 (PyProof.Rows.lt_int h:ai (aj prog w) A (aQ .Lt (.int a t) (.int c u)) Q E s)
section
open PySem.SeqAt
open PySem.AutoSeq1 (wpAny_loadPart')
open PySem.MeetsSeq PySem.MeetsSeq2 PySem.MeetsSeq3
theorem tI(l b:Addr)(items items2:Array ae)(n n2:Nat)(dd dd2:Option Addr)(sl sl2:Array (Option ae))(ns ms:List Int)(hi:IntsAre items.toList ns)(hj:IntsAre items2.toList ms) :
  Meets (Builtin.«tuple.__lt__» ⟨[.ref l,.ref b],[]⟩)
   (λ_ R s=>s.heap.get? l=some {cls:=.type "tuple",dict:=dd,data:=.seq items n,slots:=sl}/\s.heap.get? b=some {cls:=.type "tuple",dict:=dd2,data:=.seq items2 n2,slots:=sl2} /\
    R (.ok (.ret (.bool (lexLt ns ms)))) s):=
 .of_wp λprog w A R s h=>by
  obtain⟨hp,g,d,tk,os⟩:=s;obtain⟨hl,hb,h⟩:=h;have f2:=AutoSeq1.sub_tuple_tuple;have z1:items.size=ns.length:=by rw[<-hi.length];simp
  have z2:items2.size=ms.length:=by rw[<-hj.length];simp
  wp_walk using wpAny_loadPart' hl,wpAny_loadPart' hb,wpAny_forIn_list _ (λrest b s'=>b.1=none/\s'=⟨hp,g,d,tk,os⟩/\∃(vs ws:List ae) (ns' ms':List Int),rest=vs.zip ws /\
   IntsAre vs ns'/\IntsAre ws ms'/\ns'.length+items2.size=ms'.length+items.size/\R (.ok (.ret (.bool (lexLt ns' ms')))) ⟨hp,g,d,tk,os⟩) _
  case turn=>
   rintro⟨y,x⟩ rest b s' ⟨hb',rfl,vs,ws,ns',ms',hz,hvi,hwi,hlen,hR⟩;cases hvi with
   |nil=>rw[List.zip_nil_left]at hz;cases hz
   |cons a t hvi'=>
    cases hwi with
    |nil=>rw[List.zip_nil_right]at hz;cases hz
    |cons c u hwi'=>
     rw[List.zip_cons_cons]at hz;injection hz with hyx hrest
     injection hyx with hy hx
     subst hy hx;rw[vo]at hR;simp only[cq]at hlen;obtain⟨e,he,hiff⟩:=rh A.in1 ⟨hp,g,d,tk,os⟩ a t c u;refine ag (he prog w _ _ ?_);cases e with
     |true=>
      rw[if_pos (hiff.mp rfl)]at hR
      wp_walk
      exact⟨rfl,rfl,_,_,_,_,hrest,hvi',hwi',by lia,hR⟩
     |false=>
      rw[if_neg (λq=>absurd (hiff.mpr q) bS)]at hR;have hri:=tm A.in1 ⟨hp,g,d,tk,os⟩ a t c u prog w
      wp_walk using hri
      exact⟨_,rfl,by simpa using hR⟩
  case fin=>
   rintro⟨b1,b2⟩ s' ⟨hb',rfl,vs,ws,ns',ms',hz,hvi,hwi,hlen,hR⟩;simp only at hb';subst hb';have hv:lexLt ns' ms'=decide (items.size<items2.size):=by
    cases hvi with
    |nil=>
     cases hwi with
     |nil=>
      simp only[List.length_nil]at hlen;rw[xl];exact(decide_eq_false (by lia)).symm
     |cons c u hw=>
      simp only[List.length_nil,cq]at hlen;rw[yo];exact(decide_eq_true (by lia)).symm
    |cons a t hv=>
     cases hwi with
     |nil=>
      simp only[List.length_nil,cq]at hlen;rw[yu];exact(decide_eq_false (by lia)).symm
     |cons c u hw=>
      rw[List.zip_cons_cons]at hz;cases hz
   rw[hv]at hR
   wp_walk
   exact⟨_,rfl,by simpa[Builtin.Tuple.tupleCompareSizes]using hR⟩
  case h=>
   exact⟨rfl,rfl,items.toList,items2.toList,ns,ms,rfl,hi,hj,by lia,h⟩
end
section
variable{prog:av}{w:au}{A:aw}{E:ae->af->Prop}{s:af}
theorem wq{l b:Addr}{items items2:Array ae}{ns ms:List Int}{Q:ae->af->Prop}(hl:IsTup s.heap l items)(hb:IsTup s.heap b items2)(hi:IntsAre items.toList ns)(hj:IntsAre items2.toList ms)
  (hu:A.units<cLine) (h:Q (.bool (lexLt ns ms)) s):ai (aj prog w) A (aQ .Lt (.ref l) (.ref b)) Q E s:=by
 obtain⟨⟨cls,dd,data,sl⟩,ho,hc,n,hd⟩:=id hl;obtain⟨⟨cls2,dd2,data2,sl2⟩,ho2,hc2,n2,hd2⟩:=id hb;simp only at hc hd hc2 hd2;subst hc hd hc2 hd2;exact richCompare_meets_room (op:=.Lt) ⟨_,ho,rfl⟩ ⟨_,ho2,rfl⟩ PySem.F.slot_tuple_lt PySem.F.entry_tuple_lt (PySem.F.args_tuple_lt_2 _ _) (tI l b items items2 n n2 dd dd2 sl sl2 ns ms hi hj)
  ⟨ho,ho2,show bp (lexLt ns ms)≠ae.notImplemented/\Q (.bool (lexLt ns ms)) s from ⟨(λx=>nomatch x),h⟩⟩ hu
theorem rE{t b:Addr}{vs ws:List ae}{Q:ae->af->Prop}(ht:IsTup s.heap t vs.toArray)(hb:IsTup s.heap b ws.toArray)(hv:vs≠[])
  (h1:ws=[]->Q (.ref t) s) (h2:ws≠[]->Q (.ref s.heap.objs.size) {s with heap:=s.heap.push {cls:=.type "tuple",data:=.seq (vs++ws).toArray}})
  (hsz:vs.length+ws.length<=aK):ai (aj prog w) A (bq .Add (.ref t) (.ref b)) Q E s:=by
 obtain⟨⟨cls,dd,data,sl⟩,ho,hc,n,hd⟩:=id ht;obtain⟨⟨cls2,dd2,data2,sl2⟩,ho2,hc2,n2,hd2⟩:=id hb;simp only at hc hd hc2 hd2;subst hc hd hc2 hd2;have e:vs.toArray++ws.toArray=(vs++ws).toArray:=by simp
 by_cases hw:ws=[]
 ·exact concat_meets ⟨_,ho,rfl⟩ ⟨_,ho2,rfl⟩ noFill_tuple_add seq_tuple_add PySem.F.slot_tuple_add PySem.F.entry_tuple_add (PySem.F.args_tuple_add_2 _ _)
   (tuple_addW1 t b vs.toArray ws.toArray n n2 dd dd2 sl sl2 (by simpa using hv) (by simp[hw])) ⟨ho,ho2,h1 hw⟩
 ·refine concat_meets ⟨_,ho,rfl⟩ ⟨_,ho2,rfl⟩ noFill_tuple_add seq_tuple_add PySem.F.slot_tuple_add PySem.F.entry_tuple_add (PySem.F.args_tuple_add_2 _ _)
   (tuple_addW2 t b vs.toArray ws.toArray n n2 dd dd2 sl sl2 (by simpa using hv) (by simpa using hw) (by rw[aO,aO];exact hsz)) ⟨ho,ho2,?_⟩
  rw[e];exact h2 hw
noncomputable def sIx(n d:Nat):Option Int->Nat
 |none=>d
 |some v=>if v<0 then (v+(n:Int)).toNat else min v.toNat n
theorem w8(n d:Nat)(hd:d<=n)(o:Option Int):sIx n d o<=n:=by
 cases o with
 |none=>exact hd
 |some v=>
  show (if v<0 then (v+(n:Int)).toNat else min v.toNat n)<=n;by_cases hv:v<0
  ·rw[if_pos hv];lia
  ·rw[if_neg hv];exact Nat.min_le_right _ _
theorem kB(v:Int)(n d:Nat):(if v<0 then max (v+(n:Int)) 0 else min v (n:Int))=((sIx n d (some v):Nat):Int):=by
 show (if v<0 then max (v+(n:Int)) 0 else min v (n:Int))=(((if v<0 then (v+(n:Int)).toNat else min v.toNat n):Nat):Int)
 by_cases hv:v<0
 ·simp only[if_pos hv];lia
 ·simp only[if_neg hv];lia
theorem xV(lo hi:Option Int)(n:Nat):Builtin.Slice.sliceAdjust lo hi 1 (n:Int)=(((sIx n 0 lo:Nat):Int),((sIx n n hi:Nat):Int)):=by
 have h1:¬ ((1:Int)<0):=by lia
 unfold Builtin.Slice.sliceAdjust;simp only[h1,if_false];refine Prod.ext ?_ ?_
 ·cases lo with
  |none=>rfl
  |some v=>exact kB v n 0
 ·cases hi with
  |none=>rfl
  |some v=>exact kB v n n
theorem wR(i j:Nat):Builtin.Slice.slicePlaces (i:Int) (j:Int) 1=j-i:=by
 unfold Builtin.Slice.slicePlaces;have h1:(1:Int)>0:=by lia
 simp only[h1,if_true,Int.ediv_one];split<;>lia
theorem nK{v:ae}{o:Option Int}{Q:Option Int->af->Prop}(p:IsPart v o)(h:Q o s):ai (aj prog w) A (Builtin.Slice.slicePartIndex v) Q E s:=by
 cases p with
 |none=>exact slicePart_none h
 |int i t=>exact slicePart_int h
theorem jI{sl:Addr}{vl vu:ae}{lo hi:Option Int}{n:Nat}{Q:Int×Int×Nat->af->Prop}(hs:s.heap.IsSliceOf sl vl vu .none)(pl:IsPart vl lo)(pu:IsPart vu hi)
  (h:Q (((sIx n 0 lo:Nat):Int),1,sIx n n hi-sIx n 0 lo) s):ai (aj prog w) A (Builtin.Slice.sliceApplied (.ref sl) (pure (n:Int))) Q E s:=by
 obtain⟨os,hos,hcs,hds⟩:=id hs;unfold Builtin.Slice.sliceApplied Builtin.Slice.sliceFields;refine ag (ag (ba hos hds (x:=vl) rfl (ag (ba hos hds (x:=vu) rfl (ag (ba hos hds (x:=.none) rfl (ax ?_)))))));refine ag (slicePart_none ?_);show ai _ _ (if ((1:Int)==0)=true then _ else _) _ _ s;rw[if_neg (by decide)];refine ag (nK pl (ag (nK pu (ag (ax ?_)))));show ai _ _ (match Builtin.Slice.sliceAdjust lo hi 1 (n:Int)with|(lo,hi)=>pure (lo,(1:Int),Builtin.Slice.slicePlaces lo hi 1)) _ _ s;rw[xV lo hi n];show ai _ _ (pure (((sIx n 0 lo:Nat):Int),(1:Int),Builtin.Slice.slicePlaces ((sIx n 0 lo:Nat):Int) ((sIx n n hi:Nat):Int) 1)) _ _ s;rw[wR];exact ax h
theorem v9(xs:Array ae)(i k:Nat):((aV k).filterMap λ(m:Nat)=>xs[((i:Int)+(m:Int) * 1).toNat]?).toArray=((xs.toList.drop i).take k).toArray:=by
 have e:(λ(m:Nat)=>xs[((i:Int)+(m:Int) * 1).toNat]?)=λm=>xs[i+m]?:=by
  funext m;have:((i:Int)+(m:Int) * 1).toNat=i+m:=by lia
  rw[this]
 rw[e];have:=pick_run xs i k;rw[List.filterMap_map]at this;have e2:((λx=>xs[x]?)∘λx=>i+x)=λm=>xs[i+m]?:=rfl
 rw[e2]at this;rw[this]
theorem wJ{t sl:Addr}{items:Array ae}{vl vu:ae}{lo hi:Option Int}{Q:ae->af->Prop}(ht:IsTup s.heap t items)(hs:s.heap.IsSliceOf sl vl vu .none)(pl:IsPart vl lo)(pu:IsPart vu hi)
  (hw:¬ (sIx items.size 0 lo=0/\sIx items.size items.size hi=items.size))
  (h:Q (.ref s.heap.objs.size) {s with heap:=s.heap.push {cls:=.type "tuple",data:=.seq ((items.toList.drop (sIx items.size 0 lo)).take (sIx items.size items.size hi-sIx items.size 0 lo)).toArray}})
  (hsz:items.size<=aK):ai (aj prog w) A (getItem (.ref t) (.ref sl)) Q E s:=by
 have htake:sizeOk (.seq ((items.toList.drop (sIx items.size 0 lo)).take (sIx items.size items.size hi-sIx items.size 0 lo)).toArray):=by
  show ((items.toList.drop (sIx items.size 0 lo)).take (sIx items.size items.size hi-sIx items.size 0 lo)).toArray.size<=aK;rw[aO,List.length_take,List.length_drop,Array.length_toList];lia
 have hj:sIx items.size items.size hi<=items.size:=w8 _ _ (aF _) hi;obtain⟨os,hos,hcs,hds⟩:=id hs;have hTs:s.TypeIs (.ref sl) "slice":=⟨os,hos,hcs⟩
 unfold getItem
 try with_reducible refine bO ?_
 first|refine ag (ax ?_)|skip
 refine ag (wpAny_sequenceKey ht.typeIs (by decide) ?_);refine ag (wpAny_callSpecial?_slot (name:=ah "__getitem__") ht.typeIs PyProof.Rows.slot_tuple_getitem
  (cw PyProof.Rows.slot_tuple_getitem ht.typeIs entry_tuple_getitem ?_ (args_tuple_getitem _ _)))
 show ai _ _ (Builtin.Tuple.tupleItemsOf (.ref t)>>=_) _ _ s;refine ag (tupleItemsOf_ ht ?_);refine ag (wpAny_typeOf hTs ?_);rw[if_pos (by decide)];refine ag (jI hs pl pu ?_);have hno:¬ ((((sIx items.size 0 lo:Nat):Int)==0&&(1:Int)==1&&(sIx items.size items.size hi-sIx items.size 0 lo)==items.size)=true):=by
  intro q;rw[aJ,aJ]at q;have q1:((sIx items.size 0 lo:Nat):Int)=0:=eq_of_beq q.1.1;have q2:sIx items.size items.size hi-sIx items.size 0 lo=items.size:=eq_of_beq q.2;exact hw ⟨by lia,by lia⟩
 show ai _ _ (if (((sIx items.size 0 lo:Nat):Int)==0&&(1:Int)==1&&(sIx items.size items.size hi-sIx items.size 0 lo)==items.size)=true then _ else _) _ _ s;rw[if_neg hno,v9]
 first
  |exact ag (m:=Builtin.Tuple.tupleExact _) (cm (ax ⟨_,rfl,ax h⟩) htake)
  |exact ag (m:=Builtin.Tuple.tupleExact _) (cm (ag (ax (ax ⟨_,rfl,ax h⟩))) htake)
  |exact ag (ag (m:=Builtin.Tuple.tupleExact _) (cm (ax (ax ⟨_,rfl,ax h⟩)) htake))
  |exact ag (ag (m:=Builtin.Tuple.tupleExact _) (cm (ax ⟨_,rfl,ax h⟩) htake))
end
end HT
namespace L2
open PySem PySem.Spec PyProof.Rows
abbrev TO:=St->Hp->(Option Int->Hp->Prop)->Prop
noncomputable def PO(X:Cx)(e:Option Expr)(t:TO):Prop:=
 ∀(pins:List (Addr×Obj)) (s:af) (σ:St) (H:Hp) (Q:Option Int->Hp->Prop),Inv X pins σ H s->t σ H Q ->
  ai (aj X.prog X.w) X.A (evalPart e X.env) (λu s'=>∃o H',Inv X pins σ H' s'/\IsPart u o/\Q o H') X.xe s
noncomputable def vU:TO:=λ_ H Q=>Q none H
noncomputable def xN(t:TE):TO:=λσ H Q=>t σ H λx H1=>∃i,x=.int i/\Q (some i) H1
theorem intsAre_of{ns:List Int}:∀{us:List ae},Vals (ns.map V.int) us->IntsAre us ns:=by
 induction ns with
 |nil=>intro us r;rw[List.map_nil]at r;cases r;exact .nil
 |cons n ns ih=>
  intro us r;rw[bt]at r;cases r with
  |cons r1 r2=>
   obtain⟨t,e⟩:=r1;subst e;exact .cons n t (ih r2)
section
variable{X:Cx}{e:Expr}{te:TE}{lo hi:Option Expr}{tl th:TO}{pos p2:Pos}
theorem wo:PO X none vU:=by
 intro pins s σ H Q I h;rw[evalPart_none];exact ax ⟨none,H,I,.none,h⟩
theorem v_(h:PE X e te):PO X (some e) (xN te):=by
 intro pins s σ H Q I hw;rw[evalPart_some];refine thn (h pins s σ H _ I hw) λu s1 ⟨x,H1,I1,r1,q1⟩=>?_
 obtain⟨i,rfl,q⟩:=q1;obtain⟨t,rfl⟩:=r1;exact⟨some i,H1,I1,.int i t,q⟩
noncomputable def SlR(X:Cx)(r:V->Option Int->Option Int->Hp->VK->Prop):Prop:=
 ∀(pins:List (Addr×Obj)) (s:af) (σ:St) (H:Hp) (x:V) (v vl vu:ae) (lo hi:Option Int) (sl:Addr) (Q:VK),Inv X pins σ H s->RelV x v->s.heap.IsSliceOf sl vl vu .none->IsPart vl lo->IsPart vu hi->r x lo hi H Q ->
  ∃T id,typeLookup (.type T) "__getitem__" = pure (some (.builtin id))/\s.TypeIs v T/\ai (aj X.prog X.w) X.A (getItem v (.ref sl)) (EP X pins σ Q) X.xe s
noncomputable def tSl(r:V->Option Int->Option Int->Hp->VK->Prop)(te:TE)(tl th:TO):TE:=λσ H Q=>te σ H λx H1=>tl σ H1 λl H2=>th σ H2 λu H3=>r x l u H3 Q
theorem vv{r:V->Option Int->Option Int->Hp->VK->Prop}(hr:SlR X r)(he:PE X e te)(hl:PO X lo tl)(hu:PO X hi th):PE X (.Subscript e (.Slice lo hi none p2) pos) (tSl r te tl th):=by
 intro pins s σ H Q I h;refine Subscript_ (thn (he pins s σ H _ I h) λv s1 ⟨x,H1,I1,r1,q1⟩=>?_);refine wpAny_Slice (thn (hl pins s1 σ H1 _ I1 q1) λvl s2 ⟨l,H2,I2,pl,q2⟩=>thn (hu pins s2 σ H2 _ I2 q2) λvu s3 ⟨u,H3,I3,pu,q3⟩=>?_);rw[evalPart_none];refine ax ?_;have I4:Inv X pins σ H3 {s3 with heap:=s3.heap.push {cls:=.type "slice",data:=.fields #[vl,vu,.none]}}:=I3.kept (t':=s3.toks) λb ob q=>Heap.get?_push_of_some _ q
 obtain⟨T,id,hT,ht,hg⟩:=hr pins {s3 with heap:=s3.heap.push {cls:=.type "slice",data:=.fields #[vl,vu,.none]}} σ H3 x v vl vu l u s3.heap.objs.size Q I4 r1 (Heap.IsSliceOf.new ..) pl pu q3;show ai (aj X.prog X.w) X.A (subscriptTail e (.Slice lo hi none p2) v (.ref s3.heap.objs.size)) (EP X pins σ Q) X.xe {s3 with heap:=s3.heap.push {cls:=.type "slice",data:=.fields #[vl,vu,.none]}};exact tail_any (ops:=[.ref s3.heap.objs.size,v]) ht hT hg (by with_unfolding_all rfl)
noncomputable def dW(xs:List V)(lo hi:Option Int):List V:=(xs.drop (HT.sIx xs.length 0 lo)).take (HT.sIx xs.length xs.length hi-HT.sIx xs.length 0 lo)
theorem lg(xs:List V)(lo hi:Option Int):(dW xs lo hi).length<=xs.length:=by
 unfold dW;rw[List.length_take,List.length_drop];lia
noncomputable def Ac(K:aq):V->Option Int->Option Int->Hp->VK->Prop:=λx lo hi H Q=>∃a xs,x=.ref a/\SqT K H a xs /\
 ¬ (HT.sIx xs.length 0 lo=0/\HT.sIx xs.length xs.length hi=xs.length)/\∀p,H p=none->Q (.ref p) (upd H p (.tup (dW xs lo hi)))
theorem pK:SlR X (Ac X.K):=by
 intro pins s σ H x v vl vu lo hi sl Q I rx hs pl pu h;obtain⟨a,xs,rfl,hx,hw,q⟩:=h;cases rx;obtain⟨its,r,ht,hz⟩:=I.tuple hx;have hlen:its.toArray.size=xs.length:=by rw[aO];exact r.length.symm
 refine⟨"tuple",_,PyProof.Rows.slot_tuple_getitem.lookup,ht.typeIs,?_⟩;refine HT.wJ ht hs pl pu (by rw[hlen];exact hw) ?_ (by rw[hlen];exact hz);rw[hlen];refine⟨.ref s.heap.objs.size,_,I.laid (t':=s.toks) (o:=.tup (dW xs lo hi)) (λb ob q=>Heap.get?_push_of_some _ q) (aF _) ?_,rfl,q _ (I.hok.fresh (aF _))⟩;exact⟨aZ (lg xs lo hi) hz,_,(r.drop (HT.sIx xs.length 0 lo)).take (HT.sIx xs.length xs.length hi-HT.sIx xs.length 0 lo),IsTup.new _ _⟩
noncomputable def vZ(K:aq):R2:=λx y H Q=>∃a b ns ms,x=.ref a/\y=.ref b/\SqT K H a (ns.map V.int)/\SqT K H b (ms.map V.int)/\Q (.bl (HT.lexLt ns ms)) H
theorem pL(hu:X.A.units<cLine):OpR X (aQ .Lt) (vZ X.K):=by
 intro pins s σ H x y v u Q I rx ry h;obtain⟨a,b,ns,ms,rfl,rfl,ha,hb,q⟩:=h;cases rx;cases ry;obtain⟨its,r1,p1,_⟩:=I.tuple ha;obtain⟨its2,r2,p2,_⟩:=I.tuple hb;have i1:IntsAre its.toArray.toList ns:=intsAre_of r1;have i2:IntsAre its2.toArray.toList ms:=intsAre_of r2;exact HT.wq p1 p2 i1 i2 hu ⟨.bl (HT.lexLt ns ms),H,I,rfl,q⟩
noncomputable def xK(K:aq):R2:=λx y H Q=>∃a b xs ys,x=.ref a/\y=.ref b/\SqT K H a xs/\SqT K H b ys/\xs≠[]/\xs.length+ys.length<=aK /\
 (ys=[]->Q (.ref a) H)/\(ys≠[]->∀p,H p=none->Q (.ref p) (upd H p (.tup (xs++ys))))
theorem Vals.nil_iff{xs:List V}{us:List ae}(r:Vals xs us):us=[]↔xs=[]:=by
 cases r with
 |nil=>simp
 |cons _ _=>simp
theorem yv:OpR X (bq .Add) (xK X.K):=by
 intro pins s σ H x y v u Q I rx ry h;obtain⟨a,b,xs,ys,rfl,rfl,ha,hb,hx,hz,q1,q2⟩:=h;cases rx;cases ry;obtain⟨its,r1,p1,_⟩:=I.tuple ha;obtain⟨its2,r2,p2,_⟩:=I.tuple hb;refine HT.rE p1 p2 (λz=>hx (r1.nil_iff.mp z)) (λz=>⟨.ref a,H,I,rfl,q1 (r2.nil_iff.mp z)⟩) (λz=>?_) (by rw[<-r1.length,<-r2.length];exact hz);refine⟨.ref s.heap.objs.size,_,I.laid (t':=s.toks) (o:=.tup (xs++ys)) (λb ob q=>Heap.get?_push_of_some _ q) (aF _) ?_,rfl,q2 (λw=>z (r2.nil_iff.mpr w)) _ (I.hok.fresh (aF _))⟩;exact⟨by rw[b_];exact hz,_,r1.append r2,IsTup.new _ _⟩
end
noncomputable def ixN(n:Nat)(i:Int):Option Nat:=if 0<=i then (if i<n then some i.toNat else none)else if -(n:Int)<=i then some (i+n).toNat else none
noncomputable def atI{α:Type}(xs:List α)(i:Int):Option α:=(ixN xs.length i).bind λj=>xs[j]?
theorem lY{n:Nat}{i:Int}{j:Nat}(h:ixN n i=some j):seqIndex? i n=some j/\j<n/\-(n:Int)<=i/\i<n:=by
 unfold ixN at h;by_cases h0:0<=i
 ·rw[if_pos h0]at h;by_cases h1:i<n
  ·rw[if_pos h1]at h;have e:i.toNat=j:=bg h;exact⟨by rw[seqIndex_of h0 h1,e],by lia,by lia,h1⟩
  ·rw[if_neg h1]at h;cases h
 ·rw[if_neg h0]at h;by_cases h1:-(n:Int)<=i
  ·rw[if_pos h1]at h;have e:(i+n).toNat=j:=bg h;exact⟨by rw[seqIndex_neg (by lia) h1,e],by lia,h1,by lia⟩
  ·rw[if_neg h1]at h;cases h
theorem jN{α:Type}{xs:List α}{i:Int}{v:α}(h:atI xs i=some v):∃j,seqIndex? i xs.length=some j/\xs[j]? = some v/\j<xs.length/\-(xs.length:Int)<=i/\i<xs.length:=by
 unfold atI at h;cases e:ixN xs.length i with
 |none=>rw[e]at h;cases h
 |some j=>
  rw[e]at h;obtain⟨h1,h2,h3,h4⟩:=lY e;exact⟨j,h1,h,h2,h3,h4⟩
noncomputable def l4(b:Expr):Prop:=∀o i,subscripted b false o i=operate [o,i] (getItem o i)
noncomputable def IxR(X:Cx)(r:R2):Prop:=
 ∀(value slice:Expr) (pins:List (Addr×Obj)) (s:af) (σ:St) (H:Hp) (x y:V) (v u:ae) (Q:VK),Inv X pins σ H s->RelV x v->RelV y u->r x y H Q ->
  subscripted slice false v u=operate [v,u] (getItem v u)->ai (aj X.prog X.w) X.A (subscriptTail value slice v u) (EP X pins σ Q) X.xe s
noncomputable def MtR(X:Cx)(id:String)(r:V->List V->Hp->VK->Prop):Prop:=
 ∀(pins:List (Addr×Obj)) (s:af) (σ:St) (H:Hp) (x:V) (xs:List V) (v:ae) (us:List ae) (Q:VK),Inv X pins σ H s->RelV x v->Vals xs us->r x xs H Q ->
  ai (aj X.prog X.w) X.A (call (.builtin id) (v::us)) (EP X pins σ Q) X.xe s
section
variable{X:Cx}{a b:Expr}{ta tb:TE}{pos:Pos}
theorem IxR.or{r r':R2}(h:IxR X r)(h':IxR X r'):IxR X (λx y H Q=>r x y H Q\/r' x y H Q):=by
 intro value slice pins s σ H x y v u Q I rx ry q hs;rcases q with q|q
 ·exact h value slice pins s σ H x y v u Q I rx ry q hs
 ·exact h' value slice pins s σ H x y v u Q I rx ry q hs
theorem xA{r:R2}(hr:IxR X r)(ha:PE X a ta)(hb:PE X b tb)(hs:l4 b):PE X (.Subscript a b pos) (tOp r ta tb):=by
 intro pins s σ H Q I h;exact Subscript_ (iW ha hb I h λv u s2 x y H2 I2 rx ry q=>hr a b pins s2 σ H2 x y v u Q I2 rx ry q (hs _ _))
noncomputable def nr(K:aq):R2:=λx y H Q=>∃p xs i v,x=.ref p/\y=.int i/\SqL K H p xs/\atI xs i=some v/\Q v H
noncomputable def lS(K:aq):R2:=λx y H Q=>∃p xs i v,x=.ref p/\y=.int i/\SqT K H p xs/\atI xs i=some v/\Q v H
theorem yQ:IxR X (nr X.K):=by
 intro value slice pins s σ H x y v u Q I rx ry h hs;obtain⟨p,xs,i,z,rfl,rfl,hq,he,q⟩:=h;cases rx;obtain⟨t,rfl⟩:=ry;obtain⟨its,r,pl,hz⟩:=I.list hq;obtain⟨j,h1,h2,h3,h4,h5⟩:=jN he;obtain⟨w,ew,rw'⟩:=r.get h2;have hl:=r.length;have hn:=fk;have fin:EP X pins σ Q w s:=⟨z,H,I,rw',q⟩
 by_cases h0:0<=i
 ·have hj:i.toNat=j:=by
   rw[seqIndex_of h0 h5]at h1;exact bg h1
  exact item_listR pl.isList h0 (by lia) (by rw[hj];simpa using ew) fin hs
 ·have hj:(i+(its.toArray.size:Int)).toNat=j:=by
   rw[seqIndex_neg (by lia) h4]at h1;rw[aO,<-hl];exact bg h1
  exact subscriptTail_builtinR (x:=w) pl.isList.typeIs slot_list_getitem.lookup
   (wpAny_getItem_list_neg (Q:=λr s'=>r=w/\EP X pins σ Q r s') pl.isList (by lia) (by rw[aO]<;>lia) (by lia) (by rw[hj];simpa using ew) ⟨rfl,fin⟩) hs
theorem yI:IxR X (lS X.K):=by
 intro value slice pins s σ H x y v u Q I rx ry h hs;obtain⟨p,xs,i,z,rfl,rfl,hq,he,q⟩:=h;cases rx;obtain⟨t,rfl⟩:=ry;obtain⟨its,r,pl,hz⟩:=I.tuple hq;obtain⟨j,h1,h2,h3,h4,h5⟩:=jN he;obtain⟨w,ew,rw'⟩:=r.get h2;have hl:=r.length;have hn:=fk;have fin:EP X pins σ Q w s:=⟨z,H,I,rw',q⟩
 exact subscriptTail_builtinR (x:=w) pl.typeIs slot_tuple_getitem.lookup
  (getItem_tuple (j:=j) (Q:=λr s'=>r=w/\EP X pins σ Q r s') pl (by lia) (by lia) (by rw[aO,<-hl];exact h1) (by simpa using ew) ⟨rfl,fin⟩) hs
theorem Aj(its:List ae)(n j:Nat)(u:ae):bz (·.setIfInBounds j u) {cls:=.type "list",data:=.seq its.toArray n}={cls:=.type "list",data:=.seq (its.set j u).toArray n}:=by
 simp[bz]
theorem Inv.lst{pins:List (Addr×Obj)}{σ:St}{H:Hp}{s:af}{p:Addr}{xs:List V}(I:Inv X pins σ H s)(h:H p=some (.lst xs)) :
  ∃(its:List ae) (n:Nat),Vals xs its/\s.heap.get? p=some {cls:=.type "list",data:=.seq its.toArray n}/\xs.length<=sizeLine:=by
 obtain⟨z,its,n,r,e⟩:=I.hok p _ h;exact⟨its,n,r,e,z⟩
theorem Inv.lstUpd{pins:List (Addr×Obj)}{σ:St}{H:Hp}{s:af}{p:Addr}{xs ys:List V}{its its':List ae}{n n':Nat}{f:Obj->Obj}(I:Inv X pins σ H s)(h:H p=some (.lst xs))
  (ho:s.heap.get? p=some {cls:=.type "list",data:=.seq its.toArray n}) (hf:f {cls:=.type "list",data:=.seq its.toArray n}={cls:=.type "list",data:=.seq its'.toArray n'}) (r:Vals ys its') (hz:ys.length<=aK) (t:Nat) :
  Inv X pins σ (upd H p (.lst ys)) {s with heap:=s.heap.update p f,toks:=t}:=by
 have e:(s.heap.update p f).get? p=some {cls:=.type "list",data:=.seq its'.toArray n'}:=by
  rw[Heap.get?_update_self f ho (by rw[hf]<;>rfl),hf]
 refine I.write (x:=p) (e:=p) (by rw[h];trivial) (.inl rfl) (λb u hb q=>(Heap.get?_update_other _ _ (Ne.symm hb)).trans q) ⟨_,e⟩ ?_;exact⟨hz,its',n',r,e⟩
noncomputable def kD:V->V->V->Hp->(Hp->Prop)->Prop:=λo i v H Q=>∃p xs k j,o=.ref p/\i=.int k/\H p=some (.lst xs)/\ixN xs.length k=some j/\Q (upd H p (.lst (xs.set j v)))
theorem set_list:kr X kD:=by
 intro pins s σ H o i v ov iv u Q I ro ri rv h;obtain⟨p,xs,k,j,rfl,rfl,hp,hj,q⟩:=h;cases ro;obtain⟨t,rfl⟩:=ri;obtain⟨its,n,r,ho,hz⟩:=I.lst hp;obtain⟨h1,h2,h3,h4⟩:=lY hj;have hl:=r.length;have hn:=fk;have I':Inv X pins σ (upd H p (.lst (xs.set j v))) {s with heap:=s.heap.update p (bz (·.setIfInBounds j u))}:=
  I.lstUpd hp ho (Aj its n j u) (r.set rv j) (by rw[List.length_set];exact hz) s.toks
 by_cases h0:0<=k
 ·have hk:k.toNat=j:=by
   rw[seqIndex_of h0 h4]at h1;exact bg h1
  exact PySem.W.ki_setAt ho h0 (by lia) (by rw[aO,<-hl];exact h4) (by rw[hk];exact⟨_,I',q⟩)
 ·have hk:(k+(its.toArray.size:Int)).toNat=j:=by
   rw[seqIndex_neg (by lia) h3]at h1;rw[aO,<-hl];exact bg h1
  exact PySem.W.ki_setBack ho (by lia) (by rw[aO,<-hl];exact h3) (by lia) (by rw[hk];exact⟨_,I',q⟩)
theorem vL(lo hi:Option Int)(n:Nat):(sliceBounds lo hi none n).1=((HT.sIx n 0 lo:Nat):Int)/\(sliceBounds lo hi none n).2.1=((HT.sIx n n hi:Nat):Int)/\(sliceBounds lo hi none n).2.2=1:=by
 refine⟨?_,?_,rfl⟩
 ·cases lo with
  |none=>simp[sliceBounds,HT.sIx]
  |some i=>
   simp only[sliceBounds,HT.sIx,Option.getD_none,show (1:Int)>0 by decide,if_true];by_cases h:i<0
   ·simp only[h,if_true]<;>lia
   ·simp only[h,if_false]<;>lia
 ·cases hi with
  |none=>simp[sliceBounds,HT.sIx]
  |some i=>
   simp only[sliceBounds,HT.sIx,Option.getD_none,show (1:Int)>0 by decide,if_true];by_cases h:i<0
   ·simp only[h,if_true]<;>lia
   ·simp only[h,if_false]<;>lia
theorem p6(its:List ae)(lo hi:Option Int):slicePick its.toArray lo hi none=((its.drop (HT.sIx its.length 0 lo)).take (HT.sIx its.length its.length hi-HT.sIx its.length 0 lo)).toArray:=by
 obtain⟨h1,h2,h3⟩:=vL lo hi its.toArray.size;unfold slicePick;rw[h1,h2,h3];simp only[sliceRange_one,pick_run,aO]<;>rfl
noncomputable def yf(K:aq):V->Option Int->Option Int->Hp->VK->Prop:=λx lo hi H Q=>∃a xs,x=.ref a/\SqL K H a xs/\∀p,H p=none->Q (.ref p) (upd H p (.lst (dW xs lo hi)))
theorem xi:SlR X (yf X.K):=by
 intro pins s σ H x v vl vu lo hi sl Q I rx hs pl pu h;obtain⟨a,xs,rfl,hx,q⟩:=h;cases rx;obtain⟨its,r,ht,hz⟩:=I.list hx;have hlen:=r.length;refine⟨"list",_,slot_list_getitem.lookup,ht.isList.typeIs,?_⟩;refine wpAny_getItem_list_slice ht.isList hs pl pu .none (by simp) ?_ (by rw[aO]<;>lia);rw[p6,<-hlen];refine⟨.ref s.heap.objs.size,_,I.laid (t':=s.toks) (o:=.lst (dW xs lo hi)) (λb ob q=>Heap.get?_push_of_some _ q) (aF _) ?_,rfl,q _ (I.hok.fresh (aF _))⟩;exact⟨aZ (lg xs lo hi) hz,_,0,(r.drop (HT.sIx xs.length 0 lo)).take (HT.sIx xs.length xs.length hi-HT.sIx xs.length 0 lo),Heap.get?_push_size _ rfl⟩
theorem vD:zg X (.builtin "len") (λxs H Q=>∃p ys,xs=[.ref p]/\(SqL X.K H p ys\/SqT X.K H p ys)/\Q (.int ys.length) H):=by
 intro pins s σ H xs us Q I r h;obtain⟨p,ys,rfl,hq,q⟩:=h;obtain⟨u,rfl,rx⟩:=vals1 r;cases rx;have hn:=fk;rcases hq with hq|hq
 ·obtain⟨its,r',pl,hz⟩:=I.list hq;have hlen:=r'.length;exact Calls.call_len_list pl.isList (by simp only[aO]<;>lia) ⟨.int ys.length,H,I.tok _,⟨s.toks+1,by rw[aO,hlen]⟩,q⟩
 ·obtain⟨its,r',pl,hz⟩:=I.tuple hq;have hlen:=r'.length;exact len_tuple pl (by simp only[aO]<;>lia) ⟨.int ys.length,H,I.tok _,⟨s.toks+1,by rw[aO,hlen]⟩,q⟩
theorem zg.or{f:ae}{r r':List V->Hp->VK->Prop}(h:zg X f r)(h':zg X f r'):zg X f (λxs H Q=>r xs H Q\/r' xs H Q):=by
 intro pins s σ H xs us Q I rs q;rcases q with q|q
 ·exact h pins s σ H xs us Q I rs q
 ·exact h' pins s σ H xs us Q I rs q
theorem y8:zg X (.type "list") (λxs H Q=>∃p ys,xs=[.ref p]/\(SqL X.K H p ys\/SqT X.K H p ys)/\∀l,H l=none->Q (.ref l) (upd H l (.lst ys))):=by
 intro pins s σ H xs us Q I r h;obtain⟨p,ys,rfl,hq,q⟩:=h;obtain⟨u,rfl,rx⟩:=vals1 r;cases rx;have fin:∀(its:List ae),Vals ys its->ys.length<=aK->∀(h':Heap) (c':Nat),(∀b o',s.heap.get? b=some o'->h'.get? b=some o') ->
   h'.get? s.heap.objs.size=some {cls:=.type "list",dict:=none,data:=.seq its.toArray c',slots:=#[]}->EP X pins σ Q (.ref s.heap.objs.size) {s with heap:=h'}:=λits r' hz h' c' kp e=>
  ⟨.ref s.heap.objs.size,_,I.laid (t':=s.toks) kp (aF _) (show zy X.prog X.w _ h' _ (.lst ys)from ⟨hz,its,c',r',e⟩),rfl,q _ (I.hok.fresh (aF _))⟩
 rcases hq with hq|hq
 ·obtain⟨its,r',pl,hz⟩:=I.list hq;have hlen:=r'.length;obtain⟨o,ho,hc,n,hd⟩:=pl.isList;exact call_list_seq p (.inl rfl) ho hc hd (λh' c' kp e=>fin its r' hz h' c' kp e) (by simp only[aO]<;>lia)
 ·obtain⟨its,r',pl,hz⟩:=I.tuple hq;have hlen:=r'.length;obtain⟨o,ho,hc,n,hd⟩:=pl;exact call_list_seq p (.inr rfl) ho hc hd (λh' c' kp e=>fin its r' hz h' c' kp e) (by simp only[aO]<;>lia)
theorem tF:zg X (.type "tuple") (λxs H Q=>∃p ys,xs=[.ref p]/\((SqL X.K H p ys/\∀l,H l=none->Q (.ref l) (upd H l (.tup ys)))\/(SqT X.K H p ys/\Q (.ref p) H))):=by
 intro pins s σ H xs us Q I r h;obtain⟨p,ys,rfl,h⟩:=h;obtain⟨u,rfl,rx⟩:=vals1 r;cases rx;rcases h with ⟨hq,q⟩|⟨hq,q⟩
 ·obtain⟨its,r',pl,hz⟩:=I.list hq;have hlen:=r'.length;refine call_tuple_list pl.isList (λh' kp=>?_) (by simp only[aO]<;>lia);have I1:Inv X pins σ H {s with heap:=h'}:=I.kept (t':=s.toks) kp;have I2:Inv X pins σ (upd H h'.objs.size (.tup ys)) {s with heap:=h'.push {cls:=.type "tuple",data:=.seq its.toArray}}:=
   I1.laid (t':=s.toks) (λb o e=>Heap.get?_push_of_some _ e) (aF _) (show zy X.prog X.w _ _ _ (.tup ys)from ⟨hz,its,r',IsTup.new _ _⟩)
  exact⟨.ref h'.objs.size,_,I2,rfl,q _ (I1.hok.fresh (aF _))⟩
 ·obtain⟨its,r',pl,hz⟩:=I.tuple hq;exact call_tuple_same pl ⟨.ref p,H,I,rfl,q⟩
noncomputable def tyV(K:aq)(T:String)(x:V)(H:Hp):Prop:=match x with
 | .str _=>T = "str"
 | .int _=>T = "int"
 | .ref p=>(T = "list"/\∃xs,SqL K H p xs)\/(T = "tuple"/\∃o,K.lookup p=some o/\o.cls=.type "tuple"/\o.dict=none) \/
   (T = "dict"/\((∃kvs,H p=some (.dK kvs))\/∃kvs,H p=some (.dT kvs)))\/(T = "set"/\∃S n,H p=some (.set S n))
 |_=>False
theorem pU{pins:List (Addr×Obj)}{σ:St}{H:Hp}{s:af}{T:String}{x:V}{v:ae}(I:Inv X pins σ H s)(r:RelV x v)(ty:tyV X.K T x H) :
  s.TypeIs v T/\∀a,v=.ref a->∃ob,s.heap.get? a=some ob/\ob.dict=none:=by
 cases x with
 |str z=>
  obtain⟨t,rfl⟩:=r;cases (show T = "str" from ty);exact⟨typeIs_str s z t,λ_ e=>nomatch e⟩
 |int i=>
  obtain⟨t,rfl⟩:=r;cases (show T = "int" from ty);exact⟨typeIs_int s i t,λ_ e=>nomatch e⟩
 |ref p=>
  cases r;rcases ty with ⟨rfl,xs,hq⟩|⟨rfl,o,hk,hc,hd⟩|⟨rfl,hk⟩|⟨rfl,S,n,hk⟩
  ·obtain⟨its,_,pl,_⟩:=I.list hq;refine⟨pl.isList.typeIs,λa e=>?_⟩;cases e;obtain⟨o,n,e,c,hd,_⟩:=pl;exact⟨o,e,hd⟩
  ·refine⟨⟨o,I.kIn p o hk,hc⟩,λa e=>?_⟩;cases e;exact⟨o,I.kIn _ o hk,hd⟩
  ·have z:∃o,s.heap.get? p=some o/\o.ExactDict:=by
    rcases hk with ⟨kvs,hk⟩|⟨kvs,hk⟩
    ·obtain⟨_,_,_,_,o,_,_,e,ex,_⟩:=I.hok p _ hk;exact⟨o,e,ex⟩
    ·obtain⟨_,_,_,_,o,_,_,e,ex,_⟩:=I.hok p _ hk;exact⟨o,e,ex⟩
   obtain⟨o,e,ex⟩:=z;refine⟨⟨o,e,ex.1⟩,λa e2=>?_⟩;cases e2;exact⟨o,e,ex.2.1⟩
  ·obtain⟨o,_,_,_,e,ex,_⟩:=I.hok p _ hk;refine⟨⟨o,e,ex.1⟩,λa e2=>?_⟩;cases e2;exact⟨o,e,ex.2.1⟩
 |_=>exact aP ty
noncomputable def tBM(K:aq)(T:String)(r:V->List V->Hp->VK->Prop)(to:TE)(t:TA):TE:=λσ H Q=>to σ H λx H1=>tyV K T x H1/\t σ H1 λxs H2=>r x xs H2 Q
variable{o e:Expr}{es:List Expr}{to:TE}{t:TA}{name:Str}{apos cpos:Pos}{T id:String}{r:V->List V->Hp->VK->Prop}
theorem iN(pa:PlainAttrs T)(slot:Slot T name id)(hty:typeOf (.builtin id)=pure (.type "method_descriptor"))(hm:MtR X id r)(ho:PE X o to)(ha:PA X (e::es) t)
  (hbase:attributeBase o name X.env (eval o X.env)=eval o X.env:=by rfl)
  (hfew:((backTo cpos (aH (e::es) X.env)).all (λx=>!x.1)&&(backToKw cpos (keywordEach [] X.env)).all (λx=>x.1.isSome)
   && decide ((e::es).length+([]:List Keyword).length+(if ([]:List Keyword).isEmpty then 0 else 1)<30))=true:=by rfl)
  (hline:(apos.endLine==cpos.line)=true:=by rfl) (hs:aH (e::es) X.env=(false,eval e X.env)::aH es X.env:=by rfl) (hplain:(backTo cpos (aH es X.env)).any (·.1)=false:=by rfl) :
  PE X (.Call (.Attribute o name apos) (e::es) [] cpos) (tBM X.K T r to t):=by
 intro pins s σ H Q I h;refine wpAny_Call_method_late hbase hfew hline rfl (thn (ho pins s σ H _ I h) λv s1 ⟨x,H1,I1,r1,ty,q1⟩=>?_);obtain⟨h1,h2⟩:=pU I1 r1 ty;refine⟨T,id,pa,slot,hty,h1,h2,?_⟩;have hA:=ha cpos pins s1 σ H1 _ I1 q1;rw[hs]at hA ⊢;refine Calls.callWith_builtin (by show (false||(backTo cpos (aH es X.env)).any (·.1))=false;rw[hplain]<;>rfl) (Calls.evalArgs_plain ?_);exact thn hA λus s2 ⟨vs,H2,I2,r2,q2⟩=>hm pins s2 σ H2 x vs v us Q I2 r1 r2 q2
/- xs.append(e), list.index on a module's tuple .. are MtR facts of 06m -/
end
noncomputable def MtM(X:Cx)(id:String)(r:V->List V->Hp->VK->Prop):Prop:=
 ∀(pins:List (Addr×Obj)) (s:af) (σ:St) (H:Hp) (x:V) (xs:List V) (v:ae) (us:List ae) (Q:VK),Inv X pins σ H s->RelV x v->Vals xs us->r x xs H Q ->
  ai (aj X.prog X.w) X.A (call (.builtin id) (v::us)) (EP X pins σ Q) X.xe s
theorem Vals.one{x:V}{us:List ae}(h:Vals [x] us):∃u,us=[u]/\RelV x u:=by
 cases h with
 |cons r h=>cases h;exact⟨_,rfl,r⟩
theorem Vals.two{x y:V}{us:List ae}(h:Vals [x,y] us):∃u v,us=[u,v]/\RelV x u/\RelV y v:=by
 cases h with
 |cons r h=>cases h with
  |cons q h=>cases h;exact⟨_,_,rfl,r,q⟩
theorem Vals.zero:∀{us:List ae},Vals [] us->us=[]
 |_,.nil=>rfl
section
variable{X:Cx}{pins:List (Addr×Obj)}{σ:St}{H:Hp}{s:af}{l b:Addr}{xs ys zs:List V}
theorem Inv.lset{its its':List ae}{n:Nat}{f:Array ae->Array ae}{t':Nat}(I:Inv X pins σ H s)(hH:H l=some (.lst xs))
  (e:s.heap.get? l=some {cls:=.type "list",data:=.seq its.toArray n}) (hf:f its.toArray=its'.toArray) (hv:Vals ys its') (hz:ys.length<=aK) :
  Inv X pins σ (upd H l (.lst ys)) {s with heap:=s.heap.update l (bz f),toks:=t'}:=by
 have q:=PySem.IsL.update e f;rw[hf]at q;refine I.write (x:=l) (e:=l) (by rw[hH];exact trivial) (.inl rfl) (λb' u hb hu=>(Heap.get?_update_other s.heap (bz f) (Ne.symm hb)).trans hu) ⟨_,q⟩ ?_;exact⟨hz,its',_,hv,q⟩
theorem Inv.lnew{its:List ae}{t':Nat}(I:Inv X pins σ H s)(hv:Vals ys its)(hz:ys.length<=aK) :
  Inv X pins σ (upd H s.heap.objs.size (.lst ys)) {s with heap:=s.heap.push {cls:=.type "list",data:=.seq its.toArray},toks:=t'}:=
 I.laid (λ_ _ q=>Heap.get?_push_of_some _ q) (aF _) ⟨hz,its,0,hv,Heap.get?_push_size _ rfl⟩
theorem Inv.fresh(I:Inv X pins σ H s):H s.heap.objs.size=none:=I.hok.fresh (aF _)
theorem Inv.lstM(I:Inv X pins σ H s)(hH:H l=some (.lst xs)):xs.length<=aK/\∃(its:List ae) (n:Nat),Vals xs its/\xs.length=its.length/\s.heap.get? l=some {cls:=.type "list",data:=.seq its.toArray n}:=by
 obtain⟨z,its,n,r,e⟩:=I.hok l _ hH;exact⟨z,its,n,r,r.length,e⟩
end
section
variable{X:Cx}
noncomputable def xb:V->List V->Hp->VK->Prop:=λx vs H Q=>∃l xs y,x=.ref l/\vs=[y]/\H l=some (.lst xs)/\xs.length<aK/\Q .non (upd H l (.lst (xs++[y])))
theorem mj:MtM X "list.append" xb:=by
 intro pins s σ H x vs v us Q I rx rv h;obtain⟨l,xs,y,rfl,rfl,hH,hz,q⟩:=h;cases rx;obtain⟨u,rfl,ru⟩:=rv.one;obtain⟨z,its,n,r,hl,e⟩:=I.lstM hH;refine call_meets F.slot_list_append ⟨_,e,rfl⟩ F.entry_list_append (F.args_list_append_2 _ _) (PySem.list_append l its.toArray n u (by rw[aO];lia)) ⟨e,?_⟩;refine⟨.non,_,I.lset (its':=its++[u]) hH e (by simp) (r.append (.cons ru .nil)) ?_,rfl,q⟩;rw[b_,List.length_singleton];lia
end
section
variable{prog:av}{w:au}{A:aw}{E:ae->af->Prop}{s:af}
set_option maxRecDepth 100000 in
end
section
variable{X:Cx}
end
end L2
namespace Att
open PySem PySem.W PySem.Calls PyProof.Rows
theorem sI{P:Params}{h:Heap}:∀(ns:List Int) (vs:List ae),WellAll P h vs (ns.map WData.int)->IntsAre vs ns:=by
 intro ns
 induction ns with
 |nil=>
  intro vs w;rw[List.map_nil]at w;cases w;exact .nil
 |cons n ns ih=>
  intro vs w;rw[bt]at w;cases w with
  |cons a b=>
   cases a;exact .cons _ _ (ih _ b)
theorem oY{l:OpenLaw}{n:Nat}(hn:l.most=some n){P:Params}{h:Heap}{args:List WData}{vals:List ae}
  (hpre:l.row.toRowW.claim.pre args=true) (hwl:WellAll P h vals args) :
  ∃a vs ns,vals=[aR a]/\args=[WData.list (ns.map WData.int)]/\h.get? a=some {cls:=.type "list",data:=.seq vs.toArray}/\IntsAre vs ns/\ns.length<=n:=by
 have hsh:WShape.hasAll [] args [.list .int]=true:=(pre_splitW hpre).1;have hc:l.pre.holds [] {args:=args}=true:=(pre_splitW hpre).2;obtain⟨d,r,rfl,h1,h2⟩:=hasAllW_cons hsh;obtain rfl:=hasAllW_nil h2;obtain⟨xs,rfl,h3⟩:=hasW_list h1;obtain⟨ns,rfl⟩:=items_int h3;have hlen:ns.length<=n:=by
  unfold OpenLaw.pre at hc;have h4:(WTm.not (.lt (.lit (.int (n:Int))) (.len (.arg 0)))).holds [] {args:=[.list (ns.map .int)]}=true:=by
   have h4:=(holds_andW hc).1;rw[hn]at h4;exact h4
  have h5:=condW_of h4 (w_not (w_lt w_lit (w_len_list (w_arg rfl))));rw[aW]at h5;refine Nat.le_of_not_lt λq=>?_
  have q':(n:Int)<((ns.length:Nat):Int):=by lia
  first
   | (rw[decide_eq_true q']at h5;exact absurd h5 (by decide))
   | (simp at h5;lia)
 cases hwl with
 |cons w1 w2=>
  cases w2;cases w1 with
  |list ho hall=>exact⟨_,_,ns,rfl,rfl,ho,sI ns _ hall,hlen⟩
theorem AD(l:OpenLaw)(args:List WData):l.row.toRowW.claim.post args (.bool true) args=true:=
 postW_of (r:=l.row.toRowW) (X:=(true==true))
  (show WShape.has [] (.bool true) .bool=true by first|rfl|decide|simp[WShape.has,WShape.arms,WShape.armsAll])
  (show (WTm.eq .res (.lit (.bool true))).value [] {args:=args,res:=some (.bool true),after:=args}=some (.bool (true==true))from w_eq_bool (w_res rfl) w_lit) rfl
theorem tx{l:OpenLaw}{n:Nat}{q:av}{loose:List Str}{XP:(Str->Option ae)->Heap->Prop}{YP:au->Heap->Prop}{d:DefRec}
  (hn:l.most=some n) (hdf:d.params.defaults=[])
  (call:∀(w:au) (s₀ s₁:af) (mg mb:Str->Option ae) (fa:Addr) (o:Obj) (pm cd doc:ae) (a:Addr) (vs:List ae) (ns:List Int),
   Ground q loose [] XP w s₀ mg mb s₁.heap->YP w s₁.heap ->
   s₁.heap.get? fa=some o->o.data=.func (docDef d.name d.params d.body d.scope pm cd doc)->s₁.heap.CodeRec cd d.name->mg d.name=some (.ref fa) ->
   s₁.heap.get? a=some {cls:=.type "list",data:=.seq vs.toArray}->IntsAre vs ns->ns.length<=n->s₁.gens = #[] ->
   codeAny (aj l.prog w) callerA (.call (.ref fa) ⟨[.ref a],[]⟩) (λr s'=>r=.ok (.ret (.bool true))/\OldK s₁.heap s'.heap/\s'.os=s₁.os/\AllBare s'.gens) s₁) :
  WalkO q loose XP YP l.row.toRowW d [] (λf vs=>PySem.call f vs):=by
 intro w s₀ s₁ mg mb G Y fa o pm cd doc dV kV ho hd hcd hD hmg hg args vals as hpre hlay hrd hwl hlo;obtain rfl:dV=.none:=Dflts.none hD hdf;obtain rfl:kV=.none:=Dflts.noKw hD;obtain⟨a,vs,ns,rfl,rfl,hobj,hints,hlen⟩:=oY hn hpre hwl;refine enter_call (codeAny_mono (call w s₀ s₁ mg mb fa o pm cd doc a vs ns G Y ho (fd_plain hd) hcd hmg hobj hints hlen hg) λr s' hq=>?_);obtain⟨rfl,h2,h3,h4⟩:=hq;exact⟨.inl ⟨.bool true,.bool true,[],rfl,λ_=>rfl,.bool true,AD l _,λ_=>⟨List.Pairwise.nil,λ_ hm=>(nomatch hm)⟩⟩,h2,h3,h4⟩
section
variable{prog:av}{w:au}{A:aw}{E:ae->af->Prop}{s:af}{K:Frag}
end
end Att
namespace L2
open PySem PySem.Spec PyProof.Rows
theorem j9:∀{vs:List ae}{ns:List Int},IntsAre vs ns->Vals (ns.map V.int) vs
 |_,_,.nil=>.nil
 |_,_,.cons n t h=>.cons ⟨t,rfl⟩ (j9 h)
noncomputable def iH(H:Hp):Prop:=∀b,H b=none\/∃o xs,H b=some (.frz o (.lst xs))
theorem sZ{P:av}{w:au}{K:aq}{mg mb:Str->Option ae}{CX:CXT}{k:Nat}{fa a:Addr}{fd:bw}{x:Str}{sp:Sp}{s₁:af}{vs:List ae}{ns:List Int}
  (KX:K.In s₁.heap) (hns:s₁.heap.Ns ak mg) (hb:s₁.heap.Ns builtinsNs mb) (hbb:∀x:Str,x≠"__name__"->mb x=bx x) (hlim:s₁.heap.NoLimit) (hg:s₁.gens = #[])
  (ha:s₁.heap.get? a=some {cls:=.type "list",data:=.seq vs.toArray}) (hi:IntsAre vs ns) (hl:ns.length<=aK) (hr:bP k callerA)
  (F:∀base:Heap,K.In base->base.Ns ak mg->dO P w K mg base CX k fa fd [x] sp) (hbind:∀(s:af) (u:ae),BindsTo s fd ⟨[u],[]⟩ [(x,u)])
  (hsp:∀H:Hp,iH H->SqL K H a (ns.map V.int)->sp [.ref a] H (λv _=>v=.bl true) λ_ _ _=>False)
  (hCX:∀H e s',CX [] H s₁ (λ_ _ _=>False) e s'->False) :
  codeAny (aj P w) callerA (.call (.ref fa) ⟨[.ref a],[]⟩) (λr s'=>r=.ok (.ret (.bool true))/\OldK s₁.heap s'.heap/\s'.os=s₁.os/\AllBare s'.gens) s₁:=by
 have rv:=j9 hi;have lenV:=hi.length
 -- from an abstract heap in which nothing but the script may be tracked
 have core:∀H:Hp,iH H->SqL K H a (ns.map V.int)->HOk P w H s₁.heap->(∀b,H b≠none->b=a)->(H a≠none->K.lookup a=none) ->
   codeAny (aj P w) callerA (.call (.ref fa) ⟨[.ref a],[]⟩) (λr s'=>r=.ok (.ret (.bool true))/\OldK s₁.heap s'.heap/\s'.os=s₁.os/\AllBare s'.gens) s₁:=by
  intro H hO hS hok hA hK;have base_of:∀{b:Addr}{o:Obj},s₁.heap.get? b=some o->H b=none->(dq s₁.heap H).get? b=some o:=λe n=>u9 e n
  have noA:∀{b:Addr}{o:Obj}{es:Array DictEntry}{ep:Nat},s₁.heap.get? b=some o->o.data=.dict es ep->H b=none:=λ{b o es ep} e d=>by
   cases q:H b with
   |none=>rfl
   |some u=>
    have e':b=a:=hA b (by rw[q];simp);subst e';rw[ha]at e;cases e;have d':Data.seq vs.toArray _=Data.dict es ep:=d;cases d'
  have nsK:∀{b:Addr}{m:Str->Option ae},s₁.heap.Ns b m->(dq s₁.heap H).Ns b m:=λ{b m} ⟨o,es,ep,e,d,r⟩=>⟨o,es,ep,base_of e (noA e d),d,r⟩
  have hKb:K.In (dq s₁.heap H):=λb o e=>base_of (KX b o e) (by
   cases q:H b with
   |none=>rfl
   |some u=>
    have e':b=a:=hA b (by rw[q];simp);subst e';rw[hK (by rw[q];simp)]at e;cases e)
  have hM:Mod K mg (dq s₁.heap H):=⟨hKb,nsK hns,⟨mb,nsK hb,hbb⟩,let ⟨mc,h1,h2⟩:=hlim;⟨mc,nsK h1,h2⟩⟩
  have e0:ee P w K mg (dq s₁.heap H) callerA [] s₁ H:=⟨rfl,hM,λb o e=>Al e,Nat.le_of_eq (s_ _ _),trivial,λb hb=>absurd (show b∈([]:List Addr)from hb) (by simp),hok,.of_eq hg⟩
  refine codeAny_mono ((F _ hKb (nsK hns)).run callerA [] s₁ H ⟨[.ref a],[]⟩ [.ref a] [.ref a] _ _ hr e0 (hbind s₁ (.ref a)) (.cons rfl .nil) (hsp H hO hS)) λr s' h=>?_
  cases r with
  |error e=>exact(hCX H e s' h).elim
  |ok fl=>
   cases fl with
   |next=>exact aP h
   |brk=>exact aP h
   |cont=>exact aP h
   |ret u=>
    obtain⟨v,H',os,bare,un,hok',r',q⟩:=h;have q':v=.bl true:=q;subst q';obtain rfl:u=bp true:=r';refine⟨rfl,OldK.of_keep λb o e=>?_,os,bare⟩;cases q:H b with
    |none=>exact un.keep b o e q (by intro z;exact absurd (show b∈([]:List Addr)from z) (by simp)) (by simp)
    |some u=>
     rcases hO b with z|⟨ob,xs,z⟩
     ·rw[q]at z;cases z
     ·have z2:=un.frzs b ob _ z;obtain⟨e1,_⟩:=hok b _ z;obtain⟨e2,_⟩:=hok' b _ z2;rw[e]at e1;cases e1;exact e2
 cases hk:K.lookup a with
 |some o=>
  -- the script is one of the module's own objects
  have e:=KX a o hk;rw[ha]at e;cases e;refine core (λ_=>none) (λ_=>.inl rfl) (.inr ⟨_,vs.toArray,_,hk,rfl,rfl,rfl,by rw[aO,lenV];exact hl,by simpa using rv⟩) (λb u z=>by have z':(none:Option HO)=some u:=z;cases z') (λb z=>absurd rfl z) λz=>absurd rfl z
 |none=>
  refine core (λb=>if b=a then some (.frz {cls:=.type "list",data:=.seq vs.toArray} (.lst (ns.map V.int)))else none) (λb=>?_) (.inl (.inr ⟨{cls:=.type "list",data:=.seq vs.toArray},if_pos rfl⟩)) (λb u z=>?_) (λb z=>?_) λ_=>hk
  ·by_cases hb:b=a
   ·exact .inr ⟨_,_,if_pos hb⟩
   ·exact .inl (if_neg hb)
  ·by_cases hb:b=a
   ·have z':=(if_pos hb).symm.trans z;cases z';subst hb;exact⟨ha,by rw[aW];exact hl,vs,_,rv,ha⟩
   ·have z':=(if_neg hb).symm.trans z;cases z'
  ·by_cases hb:b=a
   ·exact hb
   ·exact absurd (if_neg hb) z
theorem xg{l:PySem.W.OpenLaw}{n k:Nat}{q:av}{loose:List Str}{XP:(Str->Option ae)->Heap->Prop}{YP:au->Heap->Prop}{d:DefRec}{K:Params->aq}{CX:au->CXT}{sp:au->Sp}{x:Str}
  (hn:l.most=some n) (hn2:n<=aK) (hdf:d.params.defaults=[]) (hr:bP k callerA)
  (hY:∀(w:au) (h:Heap),YP w h->(K w.params).In h)
  (F:∀(w:au) (mg:Str->Option ae) (fa:Addr) (h:Heap),(K w.params).In h->h.Ns ak mg->mg d.name=some (.ref fa) ->
   ∃fd:bw,(∀(s:af) (u:ae),BindsTo s fd ⟨[u],[]⟩ [(x,u)]) /\
    ∀base:Heap,(K w.params).In base->base.Ns ak mg->dO l.prog w (K w.params) mg base (CX w) k fa fd [x] (sp w))
  (hsp:∀(w:au) (H:Hp) (a:Addr) (ns:List Int),ns.length<=n->iH H->SqL (K w.params) H a (ns.map V.int)->sp w [.ref a] H (λv _=>v=.bl true) λ_ _ _=>False)
  (hCX:∀(w:au) (H:Hp) (s:af) (e:ae) (s':af),CX w [] H s (λ_ _ _=>False) e s'->False) :
  PySem.W.WalkO q loose XP YP l.row.toRowW d [] (λf vs=>PySem.call f vs):=by
 refine Att.tx hn hdf λw s₀ s₁ mg mb fa o pm cd doc a vs ns G Y ho hd hcd hmg hobj hints hlen hg=>?_
 have KX:=hY w _ Y;obtain⟨fd,hb,hF⟩:=F w mg fa _ KX G.T.g hmg;exact sZ KX G.T.g G.T.b G.T.builtins G.T.nolimit hg hobj hints (aZ hlen hn2) hr hF hb (λH hO hS=>hsp w H a ns hlen hO hS) λH e s'=>hCX w H s₁ e s'
end L2
/- THE LAST THEOREM (shape; LID, My.* are yours):
   My.Adr: a structure of the addresses that your layer names (classes, functions); My.Txt K t: a structure (Prop) of the equations over K;
   My.txt_mk : {K} {implicit addresses ..} (e1 : nsIn K mainGlobals "law" = some (some (.ref f))) (e2 : K.lookup f = some ⟨oc, od, .func (fnOf "law" "law" params body scope dV kV doc pm an cdv ct), sl⟩) (e3 : codeIn K cdv "law" = true) .. : ∃ t, My.Txt K t
set_option maxRecDepth 100000 in
set_option maxHeartbeats 0 in
theorem PySem.Challenge.cw_LID_holds : PySem.Challenge.rw_LID.Holds := by
 w_on; o_law; k_head; (case hw => w_witness2)
 k_fill
 refine L2.walk_of (l := PySem.Challenge.rw_LID) (n := 63) (k := 40) (x := "script") (CX := fun w => ..) (sp := fun _ => My.sp_law) rfl (by decide) rfl ⟨rfl, by decide, by decide⟩ (fun w h Y => PySem.W.kIn_of Y) ?F ?S ?C
 case F =>
  intro w mg fa h KX G hmg;have T : ∃ t, My.Txt (L2.KOf KX) t := by
   dsimp only [L2.KOf]                          -- K must stand as «<heap const> w.params» for k_is
   refine' My.txt_mk ?e1 ?e2 ?e3 ..
   (case e1 => PySem.W.k_is)                    -- in the order: a name -> its address -> its object -> its parts
   (case e2 => PySem.W.k_is)
   ..
  obtain ⟨t, T⟩ := T;have e0 := hmg.symm.trans (PySem.W.mg_of KX G T.law);cases e0                                       -- fa is the law's own address
  exact ⟨_, fun s u => .of_eq rfl, fun base kb nb => My.law_fn T kb nb⟩     -- if «.of_eq rfl» comes too early: refine' ⟨_, ?b, fun base kb nb => My.law_fn T kb nb⟩; exact fun s u => .of_eq rfl
 case S => exact fun w H a ns hl hO hS => ..
 case C => exact ..
(the tactic k_is has no namespace: write k_is) -/
namespace L2
open PySem PySem.Spec PyProof.Rows
noncomputable def qo(s:Stmt):Arguments:=match s with
 | .FunctionDef _ a _ _ _ _ _ _ _ _=>a
 |_=>{posonlyargs:=[],args:=[],vararg:=none,kwonlyargs:=[],kw_defaults:=[],kwarg:=none,defaults:=[]}
noncomputable def zB(s:Stmt):List Stmt:=match s with
 | .FunctionDef _ _ b _ _ _ _ _ _ _=>b
 |_=>[]
noncomputable def qk(s:Stmt):Scope:=match s with
 | .FunctionDef _ _ _ _ _ _ sc _ _ _=>sc
 |_=>{kind:=.function,names:=[],isGenerator:=false,isCoroutine:=false}
abbrev E0:XK:=λ_ _ _=>False
structure Fun(K:aq)(x qual:Str)(st:Stmt)(f:Addr)(fd:bw):Prop where
 ex:∃(oc:ae) (od:Option Addr) (kV doc pm:ae) (an:Option Addr) (cdv ct:ae) (osl:Array (Option ae)),
  fd=bJ x qual (qo st) (zB st) (qk st) .none kV doc pm an cdv ct/\K.lookup f=some ⟨oc,od,.func fd,osl⟩/\PySem.W.codeIn K cdv qual=true
 kp:bT K (.ref f)=true
section
variable{P:av}{w:au}{K:aq}{mg:Str->Option ae}{base:Heap}
theorem Fun.binds{x qual:Str}{st:Stmt}{f:Addr}{fd:bw}{ps:List Str}(F:Fun K x qual st f fd)
  (h:∀(kV doc pm:ae) (an:Option Addr) (cdv ct:ae) (us:List ae),us.length=ps.length->bindArgs (bJ x qual (qo st) (zB st) (qk st) .none kV doc pm an cdv ct) ⟨us,[]⟩=pure (ps.zip us)):Binds K fd ps []:=by
 obtain⟨oc,od,kV,doc,pm,an,cdv,ct,osl,rfl,lk,hcd⟩:=F.ex;exact .all (h kV doc pm an cdv ct)
theorem mh{x qual:Str}{st:Stmt}{f:Addr}{oc:ae}{od an:Option Addr}{osl:Array (Option ae)}{kV doc pm cdv ct:ae}(l:K.lookup f=some ⟨oc,od,.func (bJ x qual (qo st) (zB st) (qk st) .none kV doc pm an cdv ct),osl⟩)
  (c:PySem.W.codeIn K cdv qual=true) (k:bT K (.ref f)=true):Fun K x qual st f (bJ x qual (qo st) (zB st) (qk st) .none kV doc pm an cdv ct):=⟨⟨oc,od,kV,doc,pm,an,cdv,ct,osl,rfl,l,c⟩,k⟩
end
section
variable{X:Cx}
end
noncomputable def qe(H H':Hp):Prop:=∀b o,H b=some o->H' b=some o
theorem qe.refl(H:Hp):qe H H:=λ_ _ h=>h
theorem qe.trans{H H1 H2:Hp}(a:qe H H1)(b:qe H1 H2):qe H H2:=λc o h=>b c o (a c o h)
theorem qe.free{H H':Hp}(e:qe H H'){l:Addr}(h:H' l=Option.none):H l=Option.none:=by
 cases q:H l with
 |none=>rfl
 |some o=>
  rw[e l o q]at h;cases h
theorem qe.seq{K:aq}{H H':Hp}{a:Addr}{xs:List V}(e:qe H H')(h:SqL K H a xs):SqL K H' a xs:=by
 rcases h with (h|⟨o,h⟩)|h
 ·exact .inl (.inl (e _ _ h))
 ·exact .inl (.inr ⟨o,e _ _ h⟩)
 ·exact .inr h
noncomputable def dv(elt:Expr)(gens:List bV)(scope:aN)(pos:Pos)(d:Nat)(acc:ae)(env:Env):Sem Unit:=
 match gens[d+1]? with
 |some g'=>do
  let x <-eval g'.iter env
  standAt g'.iter.pos
  let x <-foldedSetIterable g'.iter env x
  let _ <-runOwn (.compStart (.ListComp elt gens scope pos) (d+1) (<-holding [x] (pyIter x)) acc env) env
  pure ()
 |none=>do
  let _ <-call (.builtin "list.append") [acc,<-eval elt env]
  pure ()
theorem uH{elt:Expr}{gens:List bV}{scope:aN}{pos:Pos}{d:Nat}{g:bV}{it acc:ae}{env:Env}(hg:gens[d]? = some g)(ha:g.is_async=0)
  (hn:∀g',gens[d+1]? = some g'->g'.is_async=0) :
  compTurn (.ListComp elt gens scope pos) d it acc env=(do
   standAt g.iter.pos
   match <-pyNext it with
   |none=>pure (.done .next)
   |some v=>
    letOwnedTupleGo g.target it v
    assign g.target env v
    let ok <-(forIn g.ifs true λc r=>if r=true then do let ok <-isTrue c env (eval c env);pure (cy ok)else pure (cy r))
    if ok then
     dv elt gens scope pos d acc env
     again (.compLoop (.ListComp elt gens scope pos) d it acc env)
    else again (.compLoop (.ListComp elt gens scope pos) d it acc env)):=by
 unfold compTurn;cases e:gens[d+1]? with
 |none=>
  simp only[hg,ha,e,dv]
  rfl
 |some g'=>
  have ha':=hn g' e;simp only[hg,ha,e,ha',dv];simp only[bne_self_eq_false,b9,if_false,bind_assoc,pure_bind]
  rfl
theorem tQ{prog:av}{w:au}{A:aw}{R:Result->af->Prop}{s:af}{elt:Expr}{gens:List bV}{scope:aN}{pos:Pos}{d:Nat}{g:bV}{it acc:ae}{env:Env}
  (hg:gens[d]? = some g) (ha:g.is_async=0)
  (h0:codeAny (aj prog w) A (.compLoop (.ListComp elt gens scope pos) d it acc env) R s)
  (h:ai (aj prog w) A (pyIter it) (λit' s'=>codeAny (aj prog w) A (.compLoop (.ListComp elt gens scope pos) d it' acc env) R s')
   (notedBy (aj prog w) A env λx s'=>R (.error x) s') s) :
  codeAny (aj prog w) A (.compStart (.ListComp elt gens scope pos) d it acc env) R s:=by
 refine codeAny_of_tree ?_;show ai _ _ ((compStart (.ListComp elt gens scope pos) d it acc env).onRaise (λx=>do noteFrame x env;standAt theWindowsPlace)) _ _ s;refine wpAny_notedAt ?_;unfold compStart;have e2:(clausesOf (.ListComp elt gens scope pos))[d]? = some g:=hg;simp only[e2];rw[if_neg (by show ¬ (g.is_async != 0)=true;simp[ha])];show ai _ _ (ask>>=_) _ _ s;refine ag (wpAny_askSetting (wpAny_ite ?_));split
 ·first
   |exact ag (ax (ax (ar rfl h0)))
   |exact ax (ar rfl h0)
 ·first
   |exact ag (wpAny_rule (ag (wpAny_standAt (ag (bu h (λit' s' h'=>ax (ar rfl h')) λ_ _ x=>x)))))
   | (refine ag (wpAny_rule ?_);show ai _ _ (standAt g.iter.pos>>=_) _ _ s;exact ag (wpAny_standAt (ag (bu h (λit' s' h'=>ax (ar rfl h')) λ_ _ x=>x))))
noncomputable def PTs(Y:Cx)(ifs:List Expr)(t:TT):Prop:=
 ∀(pins:List (Addr×Obj)) (s:af) (σ:St) (H:Hp) (Q:Bool->Hp->Prop),Inv Y pins σ H s->t σ H Q ->
  ai (aj Y.prog Y.w) Y.A (forIn ifs true λc r=>if r=true then do let ok <-isTrue c Y.env (eval c Y.env);pure (cy ok)else pure (cy r)) (TP Y pins σ Q) Y.xe s
noncomputable def yW:TT:=λ_ H Q=>Q true H
theorem wC{Y:Cx}:PTs Y [] yW:=λ_ _ _ H _ I h=>wpAny_tests_nil ⟨H,I,h⟩
theorem sS{Y:Cx}{c:Expr}{t:TT}(hc:PT Y c t):PTs Y [c] t:=λpins s σ H Q I h=>wpAny_tests_one (hc pins s σ H Q I h)
noncomputable def PB(Y:Cx)(m:Sem Unit)(t:TS):Prop:=
 ∀(pins:List (Addr×Obj)) (s:af) (σ:St) (H:Hp) (D:Ends),Inv Y pins σ H s->t D σ H ->
  ai (aj Y.prog Y.w) Y.A m (λ_ s'=>∃σ' H',Inv Y pins σ' H' s'/\D.nx σ' H') Y.xe s
section
variable{Y:Cx}{elt:Expr}{gens:List bV}{scope:aN}{pos:Pos}{d:Nat}
noncomputable def fZ(acc:Addr)(te:TE):TS:=λD σ H=>te σ H λy H1=>∃xs,H1 acc=some (.lst xs)/\xs.length<aK/\D.nx σ (upd H1 acc (.lst (xs++[y])))
theorem kE{acc:Addr}{te:TE}(hn:gens[d+1]? = none)(he:PE Y elt te):PB Y (dv elt gens scope pos d (.ref acc) Y.env) (fZ acc te):=by
 intro pins s σ H D I h;unfold dv;rw[hn];refine ag (thn (he pins s σ H _ I h) λu s1 ⟨y,H1,I1,r1,xs,hx,hz,q⟩=>?_);refine ag (thn (mj pins s1 σ H1 (.ref acc) [y] (.ref acc) [u] (λ_ H'=>D.nx σ H') I1 rfl (.cons r1 .nil) ⟨acc,xs,y,rfl,rfl,hx,hz,q⟩) λ_ s2 ⟨_,H2,I2,_,q2⟩=>?_);exact ax ⟨σ,H2,I2,q2⟩
theorem yB{g:bV}{it:Addr}{acc:ae}{fp:List Addr}{tn:Nat->Heap->Prop}{J:It}{tg:TG}{tt:TT}{tb:TS}(hc:Y.calm=true)(hx:∀e s,¬ Y.xe e s)(hg:gens[d]? = some g)(ha:g.is_async=0)
  (hn:∀g',gens[d+1]? = some g'->g'.is_async=0) (T:Turn Y.prog Y.w Y.K g.target J fp it tn) (pg:PG Y g.target tg) (pt:PTs Y g.ifs tt) (pb:PB Y (dv elt gens scope pos d acc Y.env) tb)
  {pins:List (Addr×Obj)}{s:af}{σ:St}{H:Hp}{D:Ends} (I:Inv Y pins σ H s) (st:tn 0 s.heap) (fr:∀b∈fp,cC Y pins H b)
  (h:∃W:Nat->Nat->St->Hp->Prop,(∃m,W 0 m σ H)/\∀i m σ H,W i m σ H ->
   (J.stop i H/\D.nx σ H)\/(J.go i H/\∃N:St->Hp->Prop,(∀σ' H',N σ' H'->∃m',m'<m/\W (i+1) m' σ' H')/\∀x H',J.yld i H x H'->tg x σ H' λσ2 H2=>gH tt tb ft {D with nx:=N,ct:=N,bk:=D.nx} σ2 H2)) :
  codeAny (aj Y.prog Y.w) Y.A (.compLoop (.ListComp elt gens scope pos) d (.ref it) acc Y.env) (λr s'=>r=.ok .next/\∃σ' H',Inv Y pins σ' H' s'/\D.nx σ' H') s:=by
 obtain⟨W,⟨m0,w0⟩,turn⟩:=h;have stat:∀{H':Hp},(∀b∈fp,H' b=none)->∀b∈fp,cC Y pins H' b:=λhn b hb=>⟨hn b hb,(fr b hb).2⟩
 refine codeAny_loop rfl (λn s'=>∃i σ' H',Inv Y pins σ' H' s'/\tn i s'.heap/\(∀b∈fp,H' b=none)/\W i n σ' H') ?_ m0 ⟨0,σ,H,I,st,λb hb=>(fr b hb).1,w0⟩;rintro n s3 ⟨i,σ3,H3,I3,st3,fr3,w3⟩;show ai _ Y.A ((compTurn (.ListComp elt gens scope pos) d (.ref it) acc Y.env).onRaise (λx=>do noteFrame x Y.env;theTreesLotGoes x)) _ _ s3;refine wpAny_noted ?_;rw[uH hg ha hn];have nox:∀{E:ae->af->Prop} (e:ae) (s:af),Y.xe e s->E e s:=λe s z=>absurd z (hx e s)
 refine ag (wpAny_standAt ?_);rcases turn i n σ3 H3 w3 with ⟨stop,qn⟩|⟨go,N,hN,step⟩
 ·refine ag (thn (T.done Y rfl rfl rfl hc i pins s3 σ3 H3 _ I3 (stat fr3) st3 stop) λr s4 ⟨hr,I4⟩=>?_);subst hr;exact ax ⟨rfl,σ3,H3,I4,qn⟩
 ·refine ag (thn (T.item Y rfl rfl rfl hc i pins s3 σ3 H3 _ I3 (stat fr3) st3 go) λr s4 ⟨u,hr,h4⟩=>?_);subst hr;refine ag (thn h4 λ_ s5 ⟨x,H5,I5,r5,y5,st5,fr5⟩=>?_);have I5':=I5.pinned (stat fr5) (T.obj _ _ st5);refine ag (bu (pg _ s5 σ3 H5 x u _ I5' r5 (step x H5 y5)) (λ_ s6 ⟨σ6,H6,I6,q6⟩=>?_) nox);have again:∀{s7:af}{σ7:St}{H7:Hp},Inv Y (pins++fE fp s5.heap) σ7 H7 s7->N σ7 H7->∃m,m<n/\∃i σ' H',Inv Y pins σ' H' s7/\tn i s7.heap/\(∀b∈fp,H' b=none)/\W i m σ' H':=λ{s7 σ7 H7} I7 n7=>by
   obtain⟨m',hm,w7⟩:=hN σ7 H7 n7;refine⟨m',hm,i+1,σ7,H7,I7.unpinned,T.keep _ _ _ st5 λb hb o e=>(I7.pin (b,o) (bQ _ (bQ _ (gO hb e)))).1,λb hb=>?_,w7⟩;obtain⟨o,e,d⟩:=T.obj _ _ st5 b hb;exact(I7.pin (b,o) (bQ _ (bQ _ (gO hb e)))).2.1
  refine ag (bu (pt _ s6 σ6 H6 _ I6 q6) (λb s7 ⟨H7,I7,q7⟩=>?_) nox);cases b with
  |true=>
   rw[if_pos rfl];rw[if_pos rfl]at q7;refine ag (bu (pb _ s7 σ6 H7 _ I7 q7) (λ_ s8 ⟨σ8,H8,I8,q8⟩=>?_) nox);exact ax ⟨rfl,again I8 q8⟩
  |false=>
   rw[if_neg bS];rw[if_neg bS]at q7;exact ax ⟨rfl,again I7 q7⟩
end
theorem i0{env:Env}:∀{names:List (Str×aM)}{cs:List (Str×Addr)},(∀x∈names,x.2=.free->∃c,env.cells.lookup x.1=some c) ->
  ∃cl,(forIn names cs (λ(x:Str×aM) (cs:List (Str×Addr))=>if (x.2==bI)=true then do let c <-cellOf env x.1;pure (cy ((x.1,c)::cs))else pure (cy cs)):Sem (List (Str×Addr)))=pure cl /\
   (∀x c,cl.lookup x=some c->env.cells.lookup x=some c\/cs.lookup x=some c)/\(∀x,(∃c,cs.lookup x=some c)->∃c,cl.lookup x=some c)/\∀x∈names,x.2=.free->∃c,cl.lookup x.1=some c
 | [],cs,_=>⟨cs,by rw[List.forIn_nil],λ_ _ h=>.inr h,λ_ h=>h,λ_ h=>nomatch h⟩
 | (n,k)::r,cs,h=>by
  rw[List.forIn_cons];by_cases hk:k=.free
  ·subst hk;obtain⟨c,hc⟩:=h (n,.free) aL rfl;have e:cellOf env n=pure c:=by
    have hc':env.cells.lookup n=some c:=hc;unfold cellOf;rw[hc']
   obtain⟨cl,e1,e2,e3,e4⟩:=i0 (names:=r) (cs:=(n,c)::cs) λx hx=>h x (aI _ hx)
   refine⟨cl,?_,λx c' q=>?_,λx q=>e3 x ?_,λx hx hf=>?_⟩
   ·simp only[beq_self_eq_true,if_true,e,pure_bind];exact e1
   ·rcases e2 x c' q with z|z
    ·exact .inl z
    ·rw[aX]at z;by_cases hxn:(x==n)=true
     ·rw[hxn]at z;have:x=n:=by simpa using hxn
      subst this;cases z;exact .inl hc
     ·have hxn':(x==n)=false:=by simpa using hxn
      rw[hxn']at z;exact .inr z
   ·rw[aX];by_cases hxn:(x==n)=true
    ·rw[hxn];exact⟨c,rfl⟩
    ·have hxn':(x==n)=false:=by simpa using hxn
     rw[hxn'];exact q
   ·rcases aG.mp hx with z|z
    ·subst z;exact e3 n ⟨c,by rw[aX,beq_self_eq_true]⟩
    ·exact e4 x z hf
  ·have hk':(k==bI)=false:=by simpa using hk
   obtain⟨cl,e1,e2,e3,e4⟩:=i0 (names:=r) (cs:=cs) λx hx=>h x (aI _ hx)
   refine⟨cl,?_,e2,e3,λx hx hf=>?_⟩
   ·simp only[hk',b9,if_false,pure_bind];exact e1
   ·rcases aG.mp hx with z|z
    ·subst z;exact absurd hf hk
    ·exact e4 x z hf
theorem mD{env:Env}{scope:aN}(h:∀x∈scope.names,x.2=.free->∃c,env.cells.lookup x.1=some c) :
  ∃cl,closureFor scope env=pure cl/\(∀x c,cl.lookup x=some c->env.cells.lookup x=some c)/\∀x∈scope.names,x.2=.free->∃c,cl.lookup x.1=some c:=by
 obtain⟨cl,e1,e2,_,e4⟩:=i0 (env:=env) (names:=scope.names) (cs:=[]) h;refine⟨cl,?_,λx c q=>(e2 x c q).elim (λz=>z) (λz=>by simp at z),e4⟩;have e:closureFor scope env=(forIn scope.names [] (λ(x:Str×aM) (cs:List (Str×Addr))=>if (x.2==bI)=true then do let c <-cellOf env x.1;pure (cy ((x.1,c)::cs))else pure (cy cs))>>=λcs=>pure cs):=rfl;rw[e,e1,pure_bind]
theorem gf{env:Env}:∀{names:List (Str×aM)}{x:Str}{k:aM},
  (names.map λ(n,k)=>if (k==bI&&env.scope.kind==.function&&env.kindOf n==some .cell)then (n,aM.cell)else (n,k)).lookup x=some k ->
  names.lookup x=some k\/(k=.cell/\names.lookup x=some .free)
 | [],_,_,h=>by simp at h
 | (n,k')::r,x,k,h=>by
  have ih:=@gf env r x k;have h':List.lookup x ((if (k'==bI&&env.scope.kind==.function&&env.kindOf n==some .cell)=true then (n,aM.cell)else (n,k'))::r.map (λ(n,k)=>if (k==bI&&env.scope.kind==.function&&env.kindOf n==some .cell)then (n,aM.cell)else (n,k)))=some k:=h;cases hx:x==n with
  |true=>
   by_cases hc:(k'==bI&&env.scope.kind==.function&&env.kindOf n==some .cell)=true
   ·rw[if_pos hc]at h';simp only[aX,hx]at h';cases h';have:k'=.free:=by
     have z:(k'==bI)=true:=by
      cases q:(k'==bI)with
      |true=>rfl
      |false=>rw[q]at hc;simp at hc
     simpa using z
    subst this;exact .inr ⟨rfl,by simp[aX,hx]⟩
   ·rw[if_neg hc]at h';simp only[aX,hx]at h';cases h';exact .inl (by simp[aX,hx])
  |false=>
   have h2:(r.map (λ(n,k)=>if (k==bI&&env.scope.kind==.function&&env.kindOf n==some .cell)then (n,aM.cell)else (n,k))).lookup x=some k:=by
    by_cases hc:(k'==bI&&env.scope.kind==.function&&env.kindOf n==some .cell)=true
    ·rw[if_pos hc]at h';simpa only[aX,hx]using h'
    ·rw[if_neg hc]at h';simpa only[aX,hx]using h'
   rcases ih h2 with z|z
   ·exact .inl (by simpa only[aX,hx]using z)
   ·exact .inr ⟨z.1,by simpa only[aX,hx]using z.2⟩
noncomputable def fv(names:List (Str×aM)):List Str:=(names.filter λy=>y.2==.cell).map (·.1)
theorem iR:∀(names:List (Str×aM)) (n:Nat) (a b:List (Str×Addr)),aU n names (a++b)=aU n names a++b
 | [],_,_,_=>rfl
 | (x,k)::r,n,a,b=>by
  unfold aU;split
  ·exact iR r (n+1) ((x,n)::a) b
  ·exact iR r n a b
theorem iP{x:Str}{c:Addr}:∀{names:List (Str×aM)}{n:Nat}{a:List (Str×Addr)},(x,c)∈aU n names a->(x,c)∈a\/(x,aM.cell)∈names
 | [],_,_,h=>.inl h
 | (y,k)::r,n,a,h=>by
  unfold aU at h;split at h
  ·rename_i hk
   rcases iP h with z|z
   ·rcases aG.mp z with q|q
    ·have hk:k=.cell:=by simpa using hk
     cases q;exact .inr (by rw[hk];exact aL)
    ·exact .inl q
   ·exact .inr (aI _ z)
  ·rcases iP h with z|z
   ·exact .inl z
   ·exact .inr (aI _ z)
theorem yh{M:Model}{A:aw}{E:ae->af->Prop}{s:af}{scope:aN}{globals:Addr}{cl:List (Str×Addr)}{qual:Str}{env:Env}{Q:Env->af->Prop}
  (hQ:∀h₁,h₁.Ns s.heap.objs.size (λ_=>none)->(∀b o,s.heap.get? b=some o->h₁.get? b=some o)->CellsOk h₁ (s.heap.objs.size+1) (aU (s.heap.objs.size+1) scope.names []) ->
   Q (newEnv scope s.heap.objs.size globals (aU (s.heap.objs.size+1) scope.names []++cl) qual none .none (some env) builtinsNs) {s with heap:=h₁}) :
  ai M A (newFunctionEnv scope globals cl [] qual none .none (some env)) Q E s:=by
 simp only[newFunctionEnv,Option.isSome_some,if_true];refine ag (wpAny_alloc ?_);refine ag (wpAny_layCells _ (λname kind cells=>by cases hkc:kind==aM.cell<;>simp[hkc]) _ _ _ _ ?_);have ok:=cellsFrom_ok scope.names (s.heap.push {cls:=.type "dict",data:=.dict #[]}) (s.heap.objs.size+1) [] ⟨λ_ _ hm=>(nomatch hm),List.Pairwise.nil⟩ (by rw[bU];exact aF _);rw[bU]at ok;rw[show ({s with heap:=s.heap.push {cls:=.type "dict",data:=.dict #[]}}:af).heap.objs.size=s.heap.objs.size+1 from bU ..];rw[show cl=[]++cl from rfl,iR];rw[List.forIn_nil];exact ag (ax (ax (hQ _ ((Heap.Ns.new s.heap (.type "dict")).keeps (pushCells_keeps _ _)) (λb o e=>pushCells_keeps _ _ b o (Heap.get?_push_of_some _ e)) ok)))
noncomputable def zw(X:Cx)(NY:List Str)(scope:aN)(cl:List (Str×Addr))(C:Addr)(s₀:af)(H₀:Hp)(fp:List Addr):Cx where
 prog:=X.prog
 w:=X.w
 K:=X.K
 mg:=X.mg
 base:=X.base
 A:=X.A
 N:=NY
 s₀:=s₀
 H₀:=H₀
 env:=compEnvC scope (aU (C+1) scope.names []++cl) C X.env
 outer:=X.stack
 stack:=X.stack
 ex:=fp
 fn:=λx=>(fv scope.names).contains x
 calm:=X.calm
 pn:=[]
 xe:=λ_ _=>False
noncomputable def caps(cap:List (Option Nat))(σ:St):St:=cap.map λo=>o.bind λj=>(σ[j]?).join
noncomputable def jQ(X:Cx)(NY:List Str)(cap:List (Option Nat))(scope:aN):Prop:=
 cap.length=NY.length/\∀(i j:Nat),cap[i]? = some (some j)->∃x,NY[i]? = some x/\X.N[j]? = some x/\scope.names.lookup x=some .free/\(X.env.kindOf x=some .cell\/X.env.kindOf x=some .free)
structure cN(X:Cx)(NY:List Str)(cap:List (Option Nat))(scope:aN):Prop where
 kind:scope.kind=.function
 cells:∀y∈scope.names,y.2=.cell->scope.names.lookup y.1=some .cell
 names:∀y∈scope.names,y.2=.local->scope.names.lookup y.1=some .local
 free:∀y∈scope.names,y.2=.free->X.env.kindOf y.1=some .cell\/X.env.kindOf y.1=some .free
 cap:jQ X NY cap scope
theorem o4{cap:List (Option Nat)}{σ:St}{i:Nat}{v:V}(h:(caps cap σ)[i]? = some (some v)):∃j,cap[i]? = some (some j)/\σ[j]? = some (some v):=by
 unfold caps at h;rw[List.getElem?_map]at h;cases e:cap[i]? with
 |none=>rw[e]at h;simp at h
 |some o=>
  rw[e]at h;cases o with
  |none=>simp at h
  |some j=>
   refine⟨j,rfl,?_⟩;have h':(σ[j]?).join=some v:=by simpa using h
   cases q:σ[j]? with
   |none=>rw[q]at h';cases h'
   |some z=>rw[q]at h';exact congrArg some h'
theorem pR{X:Cx}{pins:List (Addr×Obj)}{σ:St}{H:Hp}{s:af}{NY:List Str}{cap:List (Option Nat)}{scope:aN}{cl:List (Str×Addr)}{fp:List Addr}{h₁:Heap}{m:Str->Option ae}
  (I:Inv X pins σ H s) (S:cN X NY cap scope) (hsub:∀x c,cl.lookup x=some c->X.env.cells.lookup x=some c) (hall:∀x∈scope.names,x.2=.free->∃c,cl.lookup x.1=some c)
  (hf:∀b∈fp,cC X pins H b) (hlt:∀b∈fp,b<s.heap.objs.size) (hn:h₁.Ns s.heap.objs.size m) (hk:∀b o,s.heap.get? b=some o->h₁.get? b=some o) (hcs:CellsOk h₁ (s.heap.objs.size+1) (aU (s.heap.objs.size+1) scope.names [])) {tk:Nat} :
  Inv (zw X NY scope cl s.heap.objs.size s H fp) [] (caps cap σ) H {s with heap:=h₁,toks:=tk}:=by
 have relx:∀x,(compEnvC scope (aU (s.heap.objs.size+1) scope.names []++cl) s.heap.objs.size X.env).kindOf x=some .cell\/(compEnvC scope (aU (s.heap.objs.size+1) scope.names []++cl) s.heap.objs.size X.env).kindOf x=some .free->scope.names.lookup x=some .free\/scope.names.lookup x=some .cell:=λx hx=>by
  rcases hx with q|q
  ·rcases gf (env:=X.env) (names:=scope.names) (x:=x) (k:=.cell) q with z|z
   ·exact .inr z
   ·exact .inl z.2
  ·rcases gf (env:=X.env) (names:=scope.names) (x:=x) (k:=.free) q with z|z
   ·exact .inl z
   ·exact .inl z.2
 have cnew:∀x c,cl.lookup x=some c->c<s.heap.objs.size:=λx c e=>by
  obtain⟨v,q⟩:=I.cell x c (hsub x c e);exact q.lt
 -- a cell is one of its own, or one from around
 have two:∀x c,(aU (s.heap.objs.size+1) scope.names []++cl).lookup x=some c->(x,c)∈aU (s.heap.objs.size+1) scope.names []\/cl.lookup x=some c:=λx c e=>by
  rw[List.lookup_append]at e;cases q:(aU (s.heap.objs.size+1) scope.names []).lookup x with
  |none=>rw[q]at e;exact .inr e
  |some c'=>rw[q]at e;cases e;exact .inl (bR q)
 have own1:∀x c,(x,c)∈aU (s.heap.objs.size+1) scope.names []->scope.names.lookup x=some .cell:=λx c e=>by
  rcases iP e with z|z
  ·cases z
  ·exact S.cells _ z rfl
 have ownA:∀x c,(x,c)∈aU (s.heap.objs.size+1) scope.names []->s.heap.objs.size<c:=λx c e=>(hcs.empty x c e).2
 have frl:∀x c,scope.names.lookup x=some .free->cl.lookup x=some c->(aU (s.heap.objs.size+1) scope.names []++cl).lookup x=some c:=λx c e1 e2=>by
  rw[List.lookup_append];cases q:(aU (s.heap.objs.size+1) scope.names []).lookup x with
  |none=>rw[e2];rfl
  |some c'=>have:=own1 x c' (bR q);rw[e1]at this;cases this
 refine⟨⟨I.ok.mod,S.kind,I.ok.glob,I.ok.blt,aF _,λx y c e1 e2=>?_,λx hx=>?_,λx c e e2=>?_,I.ok.hd,I.ok.frames,.inl rfl,λb hb=>?_,λb o e=>I.bs b o e,aZ I.ok.bsz I.sz,λb o e hb=>?_,λb hb z=>?_,I.stack,I.stkFree⟩,
  rfl,I.bare,Un.kept hk,⟨m,hn,λi x v e1 e2 e3=>?_⟩,λx c e=>?_,I.hok.fresh (aF _),λx c e=>?_,λp hp=>absurd (show p∈([]:List (Addr×Obj))from hp) (by simp),I.hok.kept hk,?_⟩
 ·rcases two x c e1 with z1|z1<;>rcases two y c e2 with z2|z2
  ·exact name_of_addr hcs.apart z1 z2
  ·exact absurd (Nat.lt_trans (cnew y c z2) (ownA x c z1)) (bh _)
  ·exact absurd (Nat.lt_trans (cnew x c z1) (ownA y c z2)) (bh _)
  ·exact I.ok.inj x y c (hsub x c z1) (hsub y c z2)
 ·rcases relx x hx with z|z
  ·obtain⟨c,hc⟩:=hall (x,.free) (bR z) rfl;exact⟨c,frl x c z hc⟩
  ·obtain⟨c,hc⟩:=hJ (n:=s.heap.objs.size+1) z;refine⟨c,?_⟩;show (aU (s.heap.objs.size+1) scope.names []++cl).lookup x=some c;rw[List.lookup_append,hc];rfl
 ·have e:(fv scope.names).contains x=true:=e;have hm:scope.names.lookup x=some .cell:=by
   simp only[fv,List.contains_iff_mem,bj,List.mem_filter,beq_iff_eq]at e;obtain⟨y,⟨y1,y2⟩,rfl⟩:=e;exact S.cells y y1 y2
  rcases two x c e2 with z|z
  ·exact Nat.le_of_lt (ownA x c z)
  ·obtain⟨c',hc⟩:=hJ (n:=s.heap.objs.size+1) hm;have e2:(aU (s.heap.objs.size+1) scope.names []++cl).lookup x=some c:=e2;rw[List.lookup_append,hc]at e2;cases e2;exact Nat.le_of_lt (ownA x _ (bR hc))
 ·obtain⟨f0,f1,f2,f3,f4,f5⟩:=hf b hb;refine⟨aS (hlt b hb),λx c e=>?_⟩;rcases two x c e with z|z
  ·exact λw=>absurd (Nat.lt_trans (ownA x c z) (w▸hlt b hb)) (bh _)
  ·exact f4 x c (hsub x c z)
 ·obtain⟨f0,f1,f2,f3,f4,f5⟩:=hf b hb;rcases f3 with z|z
  ·exact I.ok.noex b o e z
  ·exact absurd (aY (aC e) (aZ I.ok.bsz z)) (bh _)
 ·obtain⟨f0,f1,f2,f3,f4,f5⟩:=hf b hb;rcases aG.mp (I.stkSub b z)with q|q
  ·exact f1 q
  ·exact f2 q
 ·obtain⟨j,c1,c2⟩:=o4 e2;obtain⟨x',n1,n2,n3,n4⟩:=S.cap.2 i j c1;have ex:x'=x:=bg (n1.symm.trans e1);subst ex;obtain⟨m',_,hl⟩:=I.loc;obtain⟨u,r,l⟩:=hl j x' v n2 c2 (n4.elim (λz=>.inr (.inl z)) λz=>.inr (.inr z));refine⟨u,r,.inr ⟨?_,?_⟩⟩
  ·rcases e3 with z|z|z
   ·rcases gf (env:=X.env) (names:=scope.names) (x:=x') (k:=.local) z with q|q
    ·rw[n3]at q;cases q
    ·cases q.1
   ·exact .inl z
   ·exact .inr z
  ·rcases l with ⟨kk,_⟩|⟨_,c,ec,ic⟩
   ·rcases n4 with z|z
    ·rw[kk]at z;cases z
    ·rw[kk]at z;cases z
   ·obtain⟨c',ec'⟩:=hall (x',.free) (bR n3) rfl;have:=hsub x' c' ec';rw[ec]at this;cases this;obtain⟨o,ho,hd⟩:=ic;exact⟨c,frl x' c n3 ec',o,hk _ _ ho,hd⟩
 ·rcases two x c e with z|z
  ·exact⟨_,(hcs.empty x c z).1⟩
  ·obtain⟨v,o,ho,hd⟩:=I.cell x c (hsub x c z);exact⟨v,o,hk _ _ ho,hd⟩
 ·rcases two x c e with z|z
  ·exact I.hok.fresh (Nat.le_of_lt (ownA x c z))
  ·exact I.freeC x c (hsub x c z)
 ·show (caps cap σ).length=NY.length;unfold caps;rw[aW];exact S.cap.1
noncomputable def jF(cap:List (Option Nat))(wi:TI)(tg:TG)(tt:TT)(tb:Addr->TS):TE:=λσ H Q=>wi σ H λJ H1=>∀acc,H1 acc=none ->
 ∃W:Nat->Nat->St->Hp->Prop,(∃m,W 0 m (caps cap σ) (upd H1 acc (.lst [])))/\∀i m τ H,W i m τ H ->
  (J.stop i H/\(Ends.mk (λ_ H=>Q (.ref acc) H) (λ_ _=>False) (λ_ _=>False) (λ_ _=>False)).nx τ H)\/(J.go i H/\∃N:St->Hp->Prop,(∀σ' H',N σ' H'->∃m',m'<m/\W (i+1) m' σ' H')/\∀x H',J.yld i H x H' ->
   tg x τ H' λσ2 H2=>gH tt (tb acc) ft {(Ends.mk (λ_ H=>Q (.ref acc) H) (λ_ _=>False) (λ_ _=>False) (λ_ _=>False))with nx:=N,ct:=N,bk:=(Ends.mk (λ_ H=>Q (.ref acc) H) (λ_ _=>False) (λ_ _=>False) (λ_ _=>False)).nx} σ2 H2)
structure Loose(X:Cx)(pins:List (Addr×Obj))(C:Addr):Prop where
 loc:C≠X.env.locals
 cell:∀x c,X.env.cells.lookup x=some c->c≠C
 up:X.s₀.heap.objs.size<=C
 pin:∀p∈X.pn++pins,p.1≠C
theorem Loose.turn{X:Cx}{pins:List (Addr×Obj)}{C:Addr}{σ:St}{H:Hp}{s:af}{h':Heap}(L:Loose X pins C)(I:Inv X pins σ H s)(hn:H C=none)(hs:Heap.SameBut C s.heap h'):Inv X pins σ H {s with heap:=h'}:=
 I.turned (t':=s.toks) (it:=C) (λb o hb e=>(hs.2 b hb).trans e) hn L.loc (.inr L.up) L.cell L.pin
section
variable{X:Cx}{elt tgt it:Expr}{ifs:List Expr}{gs:List bV}{scope:aN}{pos:Pos}{NY:List Str}{cap:List (Option Nat)}{wi:TI}{tg:TG}{tt:TT}{tb:Addr->TS}
theorem mL{Q:VK}{pins:List (Addr×Obj)}{σ:St}{H:Hp}{s s2:af}{cl:List (Str×Addr)}{itv:ae}{E:ae->af->Prop}{use:Option (ae->Sem Unit)}{QQ:ae->af->Prop}
  (hc:X.calm=true) (S:cN X NY cap scope) (hng:∀g'∈gs,g'.is_async=0)
  (hsub:∀x c,cl.lookup x=some c->X.env.cells.lookup x=some c) (hall:∀x∈scope.names,x.2=.free->∃c,cl.lookup x.1=some c)
  (hb:∀cl C s₀ H₀ fp,PG (zw X NY scope cl C s₀ H₀ fp) tgt tg/\PTs (zw X NY scope cl C s₀ H₀ fp) ifs tt/\∀acc,PB (zw X NY scope cl C s₀ H₀ fp) (dv elt (⟨tgt,it,ifs,0⟩::gs) scope pos 0 (.ref acc) (zw X NY scope cl C s₀ H₀ fp).env) (tb acc))
  (h2:PIE X pins σ tgt (λJ H1=>∀acc,H1 acc=none ->
   ∃W:Nat->Nat->St->Hp->Prop,(∃m,W 0 m (caps cap σ) (upd H1 acc (.lst [])))/\∀i m τ H,W i m τ H ->
    (J.stop i H/\(Ends.mk (λ_ H=>Q (.ref acc) H) (λ_ _=>False) (λ_ _=>False) (λ_ _=>False)).nx τ H)\/(J.go i H/\∃N:St->Hp->Prop,(∀σ' H',N σ' H'->∃m',m'<m/\W (i+1) m' σ' H')/\∀x H',J.yld i H x H' ->
     tg x τ H' λσ2 H2=>gH tt (tb acc) ft {(Ends.mk (λ_ H=>Q (.ref acc) H) (λ_ _=>False) (λ_ _=>False) (λ_ _=>False))with nx:=N,ct:=N,bk:=(Ends.mk (λ_ H=>Q (.ref acc) H) (λ_ _=>False) (λ_ _=>False) (λ_ _=>False)).nx} σ2 H2)) itv s2)
  (fin:∀(acc C:Addr) (s':af) (m:Str->Option ae) (H':Hp),s'.heap.Ns C m->Loose X pins C->Inv X pins σ H' s'->H' C=none->Q (.ref acc) H'->compPost (aj X.prog X.w) X.A E use QQ (.ref acc) C (.ok .next) s') :
  ai (aj X.prog X.w) X.A (newList []) (λacc s₃=>ai (aj X.prog X.w) X.A (newFunctionEnv scope X.env.globals cl [] X.env.qual none .none (some X.env)) (λcenv s₄=>
   codeAny (aj X.prog X.w) X.A (.compStart (.ListComp elt (⟨tgt,it,ifs,0⟩::gs) scope pos) 0 itv acc {cenv with scope:=relabel scope X.env}) (compPost (aj X.prog X.w) X.A E use QQ acc cenv.locals) s₄) E s₃) E s2:=by
 obtain⟨ia,fp,tn,J,H2,e,I2,T,st2,f2,q⟩:=h2;subst e;have hlt2:∀b∈fp,b<s2.heap.objs.size:=λb hb=>by
  obtain⟨o,ho,_⟩:=T.obj _ _ st2 b hb;exact aC ho
 refine cm ?_;have hacc:H2 s2.heap.objs.size=none:=I2.hok.fresh (aF _);have I3:Inv X pins σ (upd H2 s2.heap.objs.size (.lst [])) {s2 with heap:=s2.heap.push {cls:=.type "list",dict:=none,data:=.seq ([]:List ae).toArray}}:=
  I2.laid (t':=s2.toks) (λb u e=>Heap.get?_push_of_some _ e) (aF _) ⟨Nat.zero_le _,[],0,.nil,Heap.get?_push_size _ rfl⟩
 have hsz3:(s2.heap.push {cls:=.type "list",dict:=none,data:=.seq ([]:List ae).toArray}).objs.size=s2.heap.objs.size+1:=bU ..;generalize hs3:({s2 with heap:=s2.heap.push {cls:=.type "list",dict:=none,data:=.seq ([]:List ae).toArray}}:af)=s3 at I3 ⊢;have hsz:s3.heap.objs.size=s2.heap.objs.size+1:=by rw[<-hs3];exact hsz3
 have st3:tn 0 s3.heap:=T.keep _ _ _ st2 λb hb o e=>by rw[<-hs3];exact Heap.get?_push_of_some _ e
 have f3:∀b∈fp,cC X pins (upd H2 s2.heap.objs.size (.lst [])) b:=λb hb=>⟨by rw[qg (aS (hlt2 b hb))];exact(f2 b hb).1,(f2 b hb).2⟩
 have hlt3:∀b∈fp,b<s3.heap.objs.size:=λb hb=>by rw[hsz];exact Nat.lt_succ_of_lt (hlt2 b hb)
 refine yh λh₁ hns₁ hk1 hcs=>?_
 have IY:=pR (tk:=s3.toks) I3 S hsub hall f3 hlt3 hns₁ hk1 hcs;have stY:tn 0 h₁:=T.keep _ _ _ st3 λb hb o e=>hk1 b o e
 obtain⟨pg,pt,pb⟩:=hb cl s3.heap.objs.size s3 (upd H2 s2.heap.objs.size (.lst [])) fp;have fY:∀b∈fp,cC (zw X NY scope cl s3.heap.objs.size s3 (upd H2 s2.heap.objs.size (.lst [])) fp) [] (upd H2 s2.heap.objs.size (.lst [])) b:=λb hb=>by
  obtain⟨g0,g1,g2,g3,g4,g5⟩:=f3 b hb;refine⟨g0,aS (hlt3 b hb),λz=>?_,.inl hb,(IY.ok.exf b hb).2,λp hp=>absurd (show p∈([]:List (Addr×Obj))from hp) (by simp)⟩;rcases aG.mp (I3.stkSub b z)with w|w
  ·exact g1 w
  ·exact g2 w
 have L:=yB (elt:=elt) (gens:=⟨tgt,it,ifs,0⟩::gs) (scope:=scope) (pos:=pos) (d:=0) (Y:=zw X NY scope cl s3.heap.objs.size s3 (upd H2 s2.heap.objs.size (.lst [])) fp) (acc:=.ref s2.heap.objs.size) hc (λ_ _ z=>z) rfl rfl
  (λg' hg'=>hng g' (List.mem_of_getElem? (i:=0) (by simpa using hg'))) T pg pt (pb s2.heap.objs.size) IY stY fY (q s2.heap.objs.size hacc)
 refine codeAny_mono (tQ (elt:=elt) (gens:=⟨tgt,it,ifs,0⟩::gs) (scope:=scope) (pos:=pos) (d:=0) (env:=compEnvC scope (aU (s3.heap.objs.size+1) scope.names []++cl) s3.heap.objs.size X.env) rfl rfl L (T.self _ 0 _ _ _ stY L)) λr s' ⟨e,τ',H',I',q'⟩=>?_
 subst e;obtain⟨m',hn',_⟩:=id I'.loc;have hLne:s3.heap.objs.size≠X.env.locals:=Nat.ne_of_gt I3.lt;have hCne:∀x c,X.env.cells.lookup x=some c->c≠s3.heap.objs.size:=λx c e z=>by
  obtain⟨v,qv⟩:=I3.cell x c e;exact absurd qv.lt (by rw[z];exact bh _)
 have J1:Inv X pins σ H' s':=by
  refine I3.call' (ch:=fp) I'.os I'.base I'.hok I'.bare λb hb=>?_
  obtain⟨g0,g1,g2,g3,g4,g5⟩:=f3 b hb;exact⟨g3,g1,g4,g5⟩
 refine fin s2.heap.objs.size s3.heap.objs.size s' m' H' hn' ⟨hLne,hCne,I3.sz,λp hp z=>?_⟩ J1 I'.free q';have:=aC (I3.pin p hp).1;rw[z]at this;exact bh _ this
theorem xO(hc:X.calm=true)(S:cN X NY cap scope)(hi:PI X tgt it wi)
  (hb:∀cl C s₀ H₀ fp,PG (zw X NY scope cl C s₀ H₀ fp) tgt tg/\PTs (zw X NY scope cl C s₀ H₀ fp) ifs tt/\∀acc,PB (zw X NY scope cl C s₀ H₀ fp) (dv elt (⟨tgt,it,ifs,0⟩::gs) scope pos 0 (.ref acc) (zw X NY scope cl C s₀ H₀ fp).env) (tb acc))
  (hng:∀g'∈gs,g'.is_async=0:=by simp)
  (hs:∀x,foldedSetIterable it X.env x=pure x:=by intro _;rfl):PE X (.ListComp elt (⟨tgt,it,ifs,0⟩::gs) scope pos) (jF cap wi tg tt tb):=by
 intro pins s σ H Q I h;obtain⟨cl,hcl,hsub,hall⟩:=mD (env:=X.env) (scope:=scope) λx hx hf=>I.ok.has x.1 (S.free x hx hf)
 rw[eval_ListComp];refine wpAny_comprehension_free (use:=none) rfl hs hcl S.kind S.names (thn (hi pins s σ H _ I h) λv s1 h1=>thn h1 λitv s2 h2=>?_);exact mL (s:=s) (H:=H) (use:=none) hc S hng hsub hall hb h2 λacc C s' m H' hn L I' hC q=>⟨m,hn,λh' hs'=>⟨.ref acc,H',L.turn I' hC hs',rfl,q⟩⟩
theorem pF{i:Nat}{x:Str}{pos' spos:Pos}(hN:X.N.Nodup)(hix:X.N[i]? = some x)(hx:Loc X.env.scope x)(hc:X.calm=true)(S:cN X NY cap scope)(hi:PI X tgt it wi)
  (hb:∀cl C s₀ H₀ fp,PG (zw X NY scope cl C s₀ H₀ fp) tgt tg/\PTs (zw X NY scope cl C s₀ H₀ fp) ifs tt/\∀acc,PB (zw X NY scope cl C s₀ H₀ fp) (dv elt (⟨tgt,it,ifs,0⟩::gs) scope pos 0 (.ref acc) (zw X NY scope cl C s₀ H₀ fp).env) (tb acc))
  (hng:∀g'∈gs,g'.is_async=0:=by simp)
  (hsw:swapsWith (.ListComp elt (⟨tgt,it,ifs,0⟩::gs) scope pos) (some (.Name x pos')) spos.line X.env=pure true:=by rfl)
  (hf:X.fn x=true\/X.env.scope.names.lookup x=some .local:=by first|exact .inl rfl|exact .inr rfl|assumption)
  (hs:∀x,foldedSetIterable it X.env x=pure x:=by intro _;rfl) :
  PS X (.Assign [.Name x pos'] (.ListComp elt (⟨tgt,it,ifs,0⟩::gs) scope pos) spos) (gn (jF cap wi tg tt tb) (dI i)):=by
 intro pins s σ H D I h;obtain⟨cl,hcl,hsub,hall⟩:=mD (env:=X.env) (scope:=scope) λx hx hf=>I.ok.has x.1 (S.free x hx hf)
 rw[exec_Assign_Name_used _ _ _ _ hsw];refine ag (wpAny_standAt (ag ?_));show ai _ _ (do let _ <-comprehension (.ListComp elt (⟨tgt,it,ifs,0⟩::gs) scope pos) scope X.env _ (newList []) false (eval it X.env) (some (assign (.Name x pos') X.env))) _ _ s;refine ag (bu (wpAny_comprehension_free (use:=some (assign (.Name x pos') X.env)) (Q:=λ_ s'=>SP X pins D .next s') rfl hs hcl S.kind S.names (thn (hi pins s σ H _ I h) λv s1 h1=>thn h1 λitv s2 h2=>?_)) (λ_ s' q=>ax (ax q)) λ_ _ e=>e);refine mL (s:=s) (H:=H) (Q:=λx H1=>dI i x σ H1 D.nx) (use:=some (assign (.Name x pos') X.env)) hc S hng hsub hall hb h2 λacc C s' m H' hn L I1 hC q1=>?_
 show ai _ _ (assign (.Name x pos') X.env (.ref acc)) _ _ _;refine wpAny_assign_Name (kv (v:=.ref acc) I1 hN hix hx rfl (λs3 I3 ⟨a,hsa,ha⟩=>?_) hf);have hCa:C≠a:=by
  rcases ha with z|z
  ·rw[z];exact L.loc
  ·exact Ne.symm (L.cell x a z)
 exact⟨m,hn.sameBut hsa hCa,λh' hsb=>⟨_,H',L.turn I3 hC hsb,q1⟩⟩
end
noncomputable def TrX(h base:Heap)(e:Addr)(K:Obj->Prop)(fl:ae):Prop:=
 ∃oe vs T oT ts,h.get? e=some oe/\K oe/\oe.data=.fields vs/\vs[1]? = some (.ref T)/\base.get? T=none/\T≠e/\h.get? T=some oT/\oT.data=.fields ts/\ts[3]? = some fl
noncomputable def cL(base:Heap)(l:List Env)(e:Addr)(K:Obj->Prop)(h:Heap):Prop:=base.StaysIn h/\base.get? e=none/\h.FunFrames base l/\TrX h base e K .none
noncomputable def iV(base:Heap)(l:List Env)(e:Addr)(K:Obj->Prop)(L:Addr)(h:Heap):Prop:=base.StaysIn h/\base.get? e=none/\h.FunFrames base l/\TrX h base e K (rawInt L)
structure Kept(K:Obj->Prop):Prop where
 of:∀o f,K o->K (Obj.mapFields f o)
theorem xC(f:Array ae->Array ae)(o:Obj):(Obj.mapFields f o).dict=o.dict:=by
 unfold Obj.mapFields
 first
  |rfl
  | (split<;>rfl)
noncomputable def jc(cls:ae)(dx:Option Addr):Obj->Prop:=λo=>o.cls=cls/\o.dict=dx
theorem gz(cls:ae)(dx:Option Addr):Kept (jc cls dx):=⟨λo f ⟨a,b⟩=>⟨(Obj.cls_mapFields _ _).trans a,(xC f o).trans b⟩⟩
section
variable{M:Model}{A:aw}{E:ae->af->Prop}{s:af}{K:Obj->Prop}{base:Heap}{env:Env}{outer l:List Env}{L e T:Addr}{Q:Unit->af->Prop}
theorem gY{b:Addr}{o ob:Obj}{vs:Array ae}(hb:s.heap.get? b=some ob)(hd:ob.data=.fields vs){c:Addr}(hc:s.heap.get? c=some o)(hn:∀ws,o.data≠.fields ws):c≠b:=λq=>by
 rw[q,hb]at hc;cases hc;exact hn vs hd
theorem mf{oe:Obj}{vs:Array ae}{hd0:ae}{nx:Bool}(hK:Kept K)(k:K oe)(hfr:A.frames=some (env::outer))(hl:s.heap.FunFrames base (env::outer))(hf:env.frame=some L)(he:s.heap.get? e=some oe)
  (hkb:base.StaysIn s.heap) (hen:base.get? e=none) (hd:oe.data=.fields vs) (hsz:1<vs.size) (hq:∀h',iV base (env::outer) e K L h'->s.heap.UpToSlots h'->Q () {s with heap:=h'}) :
  ai M A (do let a <-frameOf env;let pl <-entryPlaceOf L nx;let b <-EntryCells.newEntry hd0 a .none (rawInt L) .none pl;setField (.ref e) 1 b) Q E s:=by
 have nofr:e∉(env::outer).filterMap (·.frame):=λhm=>by
  obtain⟨_,o,ho,hn⟩:=hl.mem hm;rw[he]at ho;cases ho;exact hn vs hd
 refine ag (wpAny_frameOf_fun hfr hl hf λh1 hs1=>ag (wpAny_entryPlaceOf λpl hpl=>?_));unfold EntryCells.newEntry newFields;refine ag (cm ?_ (hpl.sizeOk5 _ _ _ _ _));have a1:h1.get? e=some oe:=(hs1.2.1 e nofr).trans he;have b1:base.StaysIn h1:=λb o q=>(hs1.2.1 b λhm=>by rw[(hl.mem hm).1]at q;cases q).trans (hkb b o q)
 generalize hO:({cls:=.type "traceback",dict:=none,data:=.fields ([hd0,.ref L,.none,rawInt L,.none]++(if pl.isEmpty then bD 6 bf else pl)).toArray}:Obj)=O;have a2:(h1.push O).get? e=some oe:=Heap.get?_push_of_some _ a1;have hOd:O.isFreed=false:=by rw[<-hO];rfl
 have ne:h1.objs.size≠e:=Nat.ne_of_gt (aC a1);have d3:=Obj.data_mapFields hd (·.setIfInBounds 1 (aR h1.objs.size));have keep:∀b o,b≠e->h1.get? b=some o->((h1.push O).update e (Obj.mapFields (·.setIfInBounds 1 (aR h1.objs.size)))).get? b=some o:=λb o n q=>by
  rw[Heap.get?_update_other _ _ (Ne.symm n)];exact Heap.get?_push_of_some _ q
 refine wpAny_setField a2 hd hsz (hq _ ?_ ?_)
 ·refine⟨λb o q=>keep b o (λz=>by rw[z,hen]at q;cases q) (b1 b o q),hen,hl.of_keeps λb o q n=>?_,?_⟩
  ·obtain⟨sl,z⟩:=hs1.2.2 b o q;exact⟨_,keep b _ (gY he hd q n) z,rfl⟩
  ·have a3:=Heap.get?_update_self (Obj.mapFields (·.setIfInBounds 1 (aR h1.objs.size))) a2 (Obj.isFreed_of_fields d3);have t3:=(Heap.get?_update_other (h1.push O) (Obj.mapFields (·.setIfInBounds 1 (aR h1.objs.size))) (Ne.symm ne)).trans (Heap.get?_push_size h1 hOd);refine⟨_,_,h1.objs.size,O,([hd0,.ref L,.none,rawInt L,.none]++(if pl.isEmpty then bD 6 bf else pl)).toArray,a3,hK.of _ _ k,d3,by simp[hsz],b1.fresh,ne,t3,by rw[<-hO],?_⟩;simp
 ·intro b o q n;obtain⟨sl,z⟩:=hs1.2.2 b o q;exact⟨sl,keep b _ (gY he hd q n) z⟩
theorem nk{oT:Obj}{ts:Array ae}{v:ae}(hT:s.heap.get? T=some oT)(hTd:oT.data=.fields ts)(nT:base.get? T=none)(hkb:base.StaysIn s.heap)(hl:s.heap.FunFrames base l) :
  (∀b,b≠T->(s.heap.update T (Obj.mapFields (·.setIfInBounds 3 v))).get? b=s.heap.get? b)/\base.StaysIn (s.heap.update T (Obj.mapFields (·.setIfInBounds 3 v)))/\(s.heap.update T (Obj.mapFields (·.setIfInBounds 3 v))).FunFrames base l /\
   s.heap.UpToSlots (s.heap.update T (Obj.mapFields (·.setIfInBounds 3 v))):=by
 have oth:∀b,b≠T->(s.heap.update T (Obj.mapFields (·.setIfInBounds 3 v))).get? b=s.heap.get? b:=λb n=>Heap.get?_update_other _ _ (Ne.symm n)
 refine⟨oth,λb o q=>(oth b λz=>by rw[z,nT]at q;cases q).trans (hkb b o q),hl.of_keeps λb o q n=>⟨o,(oth b (gY hT hTd q n)).trans q,rfl⟩,λb o q n=>⟨o.slots,(oth b (gY hT hTd q n)).trans q⟩⟩
theorem e_{fl:ae}(hkb:base.StaysIn s.heap)(hen:base.get? e=none)(hl:s.heap.FunFrames base l)(ht:TrX s.heap base e K fl)(hq:∀h',cL base l e K h'->s.heap.UpToSlots h'->Q () {s with heap:=h'}) :
  ai M A (setFlight (.ref e) none) Q E s:=by
 obtain⟨oe,vs,T,oT,ts,he,k,hd,h1,nT,ne,hT,hTd,h3⟩:=ht;have sz:3<ts.size:=(Array.getElem?_eq_some_iff.mp h3).1;unfold setFlight;refine ag (ba he hd h1 ?_);rw[if_pos (show (aR T != bf)=true from by simp)];obtain⟨oth,p1,p2,p3⟩:=nk (v:=(none:Option Addr).elim bf λf=>rawInt f) hT hTd nT hkb hl;refine wpAny_setField hT hTd sz (hq _ ⟨p1,hen,p2,?_⟩ p3);exact⟨oe,vs,T,_,_,(oth e (Ne.symm ne)).trans he,k,hd,h1,nT,ne,Heap.get?_update_self _ hT (Obj.isFreed_of_fields (Obj.data_mapFields hTd _)),Obj.data_mapFields hTd _,by simp[sz]⟩
theorem jo(hK:Kept K)(hfr:A.frames=some (env::outer))(hf:env.frame=some L)(F:cL base (env::outer) e K s.heap)(hq:∀h',iV base (env::outer) e K L h'->s.heap.UpToSlots h'->Q () {s with heap:=h'}) :
  ai M A (noteFrame (.ref e) env) Q E s:=by
 obtain⟨hkb,hen,hl,oe,vs,T,oT,ts,he,k,hd,h1,nT,ne,hT,hTd,h3⟩:=F;unfold noteFrame;simp only[hf];refine ag (ba he hd h1 ?_);rw[if_pos (show (aR T != bf)=true from by simp)];refine ag (ba hT hTd h3 ?_);rw[if_neg (show ¬ ((bf==rawInt L)=true)from by simp[rawInt])];obtain⟨oth,p1,p2,p3⟩:=nk (v:=bf) hT hTd nT hkb hl;refine ag (wpAny_setField hT hTd (Array.getElem?_eq_some_iff.mp h3).1 ?_);exact mf hK k hfr p2 hf ((oth e (Ne.symm ne)).trans he) p1 hen hd (Array.getElem?_eq_some_iff.mp h1).1 λh' H u=>hq h' H (p3.trans u)
theorem AQ{oe:Obj}{vs:Array ae}(hK:Kept K)(k:K oe)(hfr:A.frames=some (env::outer))(hf:env.frame=some L)(hkb:base.StaysIn s.heap)(hl:s.heap.FunFrames base (env::outer))(he:s.heap.get? e=some oe)
  (hen:base.get? e=none) (hd:oe.data=.fields vs) (h1:vs[1]? = some .none) (hq:∀h',iV base (env::outer) e K L h'->s.heap.UpToSlots h'->Q () {s with heap:=h'}):ai M A (noteFrame (.ref e) env) Q E s:=by
 unfold noteFrame;simp only[hf];refine ag (ba he hd h1 ?_);rw[if_neg (by decide)];exact mf hK k hfr hl hf he hkb hen hd (Array.getElem?_eq_some_iff.mp h1).1 hq
theorem cL.out(F:cL base (env::outer) e K s.heap):cL base outer e K s.heap:=let ⟨a,b,⟨_,_,c⟩,d⟩:=F;⟨a,b,c,d⟩
theorem yJ(hK:Kept K)(hfr:A.frames=some (env::outer))(hf:env.frame=some L)(F:cL base (env::outer) e K s.heap)(hq:∀h',cL base outer e K h'->s.heap.UpToSlots h'->Q () {s with heap:=h'}) :
  ai M A (leaving env (.ref e)) Q E s:=by
 unfold leaving;refine ag (jo hK hfr hf F λh' ⟨a,b,c,d⟩ u=>e_ (s:={s with heap:=h'}) a b c d λh2 F2 u2=>hq h2 ?_ (u.trans u2));exact cL.out (s:={s with heap:=h2}) F2
theorem tH{oe:Obj}{vs:Array ae}(hK:Kept K)(k:K oe)(hfr:A.frames=some (env::outer))(hf:env.frame=some L)(hkb:base.StaysIn s.heap)(hl:s.heap.FunFrames base (env::outer))(he:s.heap.get? e=some oe)
  (hen:base.get? e=none) (hd:oe.data=.fields vs) (h1:vs[1]? = some .none) (hq:∀h',cL base outer e K h'->s.heap.UpToSlots h'->Q () {s with heap:=h'}):ai M A (leaving env (.ref e)) Q E s:=by
 unfold leaving;refine ag (AQ hK k hfr hf hkb hl he hen hd h1 λh' ⟨a,b,c,d⟩ u=>e_ (s:={s with heap:=h'}) a b c d λh2 F2 u2=>hq h2 ?_ (u.trans u2));exact cL.out (s:={s with heap:=h2}) F2
end
theorem zy.there{P:av}{w:au}{H:Hp}{h:Heap}{a:Addr}{o:HO}(x:zy P w H h a o):∃u,h.get? a=some u:=by
 cases o with
 |lst xs=>obtain⟨_,_,_,_,e⟩:=x;exact⟨_,e⟩
 |tup xs=>obtain⟨_,_,_,o,e,_⟩:=x;exact⟨_,e⟩
 |dK kvs=>obtain⟨_,_,_,_,o,_,_,e,_⟩:=x;exact⟨_,e⟩
 |dT kvs=>obtain⟨_,_,_,_,o,_,_,e,_⟩:=x;exact⟨_,e⟩
 |set S n=>obtain⟨o,_,_,_,e,_⟩:=x;exact⟨_,e⟩
 |ins C dx fs=>obtain⟨_,_,_,e,_⟩:=x;exact⟨_,e⟩
 |own y=>obtain⟨_,e⟩:=x;exact⟨_,e⟩
 |xd fs=>obtain⟨_,⟨_,_,_,e,_⟩,_⟩:=x;exact⟨_,e⟩
 |rng lo hi=>obtain⟨_,_,_,e⟩:=x;exact⟨_,e⟩
 |frz ob u=>obtain⟨e,_⟩:=x;exact⟨_,e⟩
 |tbl ps=>exact⟨_,(show h.get? a=some _ from x)⟩
 |met f y=>exact⟨_,(show h.get? a=some _ from x)⟩
 |ext φ=>obtain⟨_,e,_⟩:=x;exact e
theorem HOk.free_of{P:av}{w:au}{H:Hp}{h:Heap}{a:Addr}(x:HOk P w H h)(e:h.get? a=none):H a=none:=by
 cases q:H a with
 |none=>rfl
 |some o=>obtain⟨u,z⟩:=(x a o q).there;rw[e]at z;cases z
structure Apart(X:Cx)(pins:List (Addr×Obj))(H:Hp)(b:Addr):Prop where
 new:X.s₀.heap.get? b=none
 free:H b=none
 pin:∀p∈X.pn++pins,p.1≠b
structure bL(X:Cx)(pins:List (Addr×Obj))(H:Hp)(h:Heap)(x:Addr)(cls:ae)(dx:Option Addr):Prop where
 me:Apart X pins H x
 tr:∃oe vs T oT ts,h.get? x=some oe/\oe.cls=cls/\oe.dict=dx/\oe.data=.fields vs/\vs[1]? = some (.ref T)/\T≠x/\h.get? T=some oT/\oT.data=.fields ts/\ts[3]? = some .none/\Apart X pins H T
structure Fly(h₀ h:Heap)(H:Hp)(x:Addr)(cls:ae)(dx:Option Addr):Prop where
 new:h₀.get? x=none
 free:H x=none
 tr:∃oe vs T oT ts,h.get? x=some oe/\oe.cls=cls/\oe.dict=dx/\oe.data=.fields vs/\vs[1]? = some (.ref T)/\T≠x/\h.get? T=some oT/\oT.data=.fields ts/\ts[3]? = some .none/\h₀.get? T=none/\H T=none
noncomputable def CX1(P:av)(w:au):CXT:=λouter H s E e s'=>
 ∃x cls dx H',e=.ref x/\s'.os=s.os/\AllBare s'.gens/\Un (frs outer) [] H H' s.heap s'.heap/\HOk P w H' s'.heap/\Fly s.heap s'.heap H' x cls dx/\E cls dx H'
section
variable{X:Cx}{pins:List (Addr×Obj)}{σ:St}{H:Hp}{s:af}{x T:Addr}{cls:ae}{dx:Option Addr}
theorem Inv.stepN{h':Heap}{t':Nat}{ch:List Addr}(I:Inv X pins σ H s)(hex:X.ex=[])(hch:∀b∈ch,Apart X pins H b/\b≠X.env.locals/\(∀x c,X.env.cells.lookup x=some c->c≠b)/\b∉X.fs)
  (keep:∀b o,b∉frs X.stack->b≠X.env.locals->b∉X.fs->b∉ch->s.heap.get? b=some o->h'.get? b=some o)
  (slot:∀b o,(b∈frs X.stack\/b=X.env.locals\/b∈X.fs)->s.heap.get? b=some o->∃sl,h'.get? b=some {o with slots:=sl}) (there:∀b o,b∉ch->s.heap.get? b=some o->∃o',h'.get? b=some o') :
  Inv X pins σ H {s with heap:=h',toks:=t'}:=by
 have sub:∀b,b∈frs X.stack->b=X.env.locals\/b∈X.fs:=λb hb=>aG.mp (I.stkSub b hb)
 have keep':∀b o,b≠X.env.locals->b∉X.fs->b∉ch->s.heap.get? b=some o->h'.get? b=some o:=λb o h1 h2 h3 e=>keep b o (λz=>(sub b z).elim h1 h2) h1 h2 h3 e
 have neL:∀b o,X.s₀.heap.get? b=some o->b≠X.env.locals:=λb o e=>aS (aY (aC e) I.ok.above)
 have neC:∀b o,X.s₀.heap.get? b=some o->b∉ch:=λb o e hb=>by
  have:=(hch b hb).1.new;rw[e]at this;cases this
 have cellK:∀x c,X.env.cells.lookup x=some c->∀v,s.heap.IsCell c v->h'.IsCell c v:=λx c e v ⟨o,ho,hd⟩=>by
  have nch:c∉ch:=λz=>(hch c z).2.2.1 x c e rfl
  by_cases hc:c∈X.fs
  ·obtain⟨sl,q⟩:=slot c o (.inr (.inr hc)) ho;exact⟨_,q,hd⟩
  ·exact⟨o,keep' c o (I.cne x c e) hc nch ho,hd⟩
 have nex:∀b,b∉X.ex:=λb=>by rw[hex];simp
 refine⟨I.ok,I.os,I.bare,⟨λb o e n hb hx=>?_,λb o e n hb hx=>?_,I.base.free,λb o e hx=>?_,I.base.tups,I.base.frzs,I.base.tbls⟩,?_,λx c e=>?_,I.free,I.freeC,λp hp=>?_,λb u e=>?_,I.len⟩
 ·exact keep' b o (neL b o e) hb (neC b o e) (I.base.keep b o e n hb hx)
 ·obtain⟨sl,e1⟩:=I.base.slot b o e n hb hx;obtain⟨sl',e2⟩:=slot b _ (.inr (.inr hb)) e1;exact⟨sl',e2⟩
 ·obtain⟨o',e1⟩:=I.base.there b o e hx;exact there b o' (neC b o e) e1
 ·obtain⟨m,hn,hl⟩:=I.loc;obtain⟨oL,es,ep,hoL,hdL,r⟩:=id hn;obtain⟨sl,eL⟩:=slot _ _ (.inr (.inl rfl)) hoL;refine⟨m,⟨_,es,ep,eL,hdL,r⟩,λi x v e1 e2 e3=>?_⟩;obtain⟨u,ru,l⟩:=hl i x v e1 e2 e3;refine⟨u,ru,?_⟩;rcases l with l|⟨k,c,e,z⟩
  ·exact .inl l
  ·exact .inr ⟨k,c,e,cellK x c e _ z⟩
 ·obtain⟨v,z⟩:=I.cell x c e;exact⟨v,cellK x c e v z⟩
 ·obtain⟨e,n,ne,nf,d⟩:=I.pin p hp;exact⟨keep' p.1 p.2 ne nf (λz=>(hch p.1 z).1.pin p hp rfl) e,n,ne,nf,d⟩
 ·have nfr:∀b,(∃u,H b=some u)->b≠X.env.locals/\b∉X.fs/\b∉ch:=λb ⟨u,e⟩=>by
   refine⟨λz=>?_,λz=>?_,λz=>?_⟩
   ·rw[z,I.free]at e;cases e
   ·obtain⟨_,o,ho,_⟩:=I.ok.funs.mem z;have:=I.base.free b o ho (I.ok.frf b z) (nex b);rw[e]at this;cases this
   ·have:=(hch b z).1.free;rw[e]at this;cases this
  refine(I.hok b u e).stay (λc v hc q=>?_) (λ_ q=>q) λ_ _ q=>q
  have hc':∃u,H c=some u:=by
   rcases hc with z|z
   ·exact⟨u,by rw[z];exact e⟩
   ·exact⟨_,z⟩
  obtain⟨n1,n2,n3⟩:=nfr c hc';exact keep' c v n1 n2 n3 q
theorem Inv.rec_ne(I:Inv X pins σ H s){b:Addr}{o:Obj}{vs:Array ae}(e:s.heap.get? b=some o)(d:o.data=.fields vs):b≠X.env.locals/\(∀x c,X.env.cells.lookup x=some c->c≠b)/\b∉X.fs/\b∉frs X.stack:=by
 have h1:b≠X.env.locals:=λz=>by
  obtain⟨m,⟨o',es,ep,ho,hd,_⟩,_⟩:=I.loc;rw[<-z,e]at ho;cases ho;rw[d]at hd;cases hd
 have h3:b∉X.fs:=λz=>by
  obtain⟨_,o',ho,hn⟩:=I.funs.mem z;rw[e]at ho;cases ho;exact hn vs d
 refine⟨h1,λx c ec z=>?_,h3,λz=>(aG.mp (I.stkSub b z)).elim h1 h3⟩;obtain⟨v,o',ho,hd⟩:=I.cell x c ec;rw[z,e]at ho;cases ho;rw[d]at hd;cases hd
theorem bL.flying(I:Inv X pins σ H s)(F:bL X pins H s.heap x cls dx):∃T oT ts,cL (PySem.W.hideAll s.heap (x::T::frs X.stack)) X.stack x (jc cls dx) s.heap/\s.heap.get? T=some oT/\oT.data=.fields ts/\Apart X pins H T:=by
 obtain⟨oe,vs,T,oT,ts,e1,e2,e3,e4,e5,e6,e7,e8,e9,e10⟩:=F.tr;refine⟨T,oT,ts,⟨λb o q=>PySem.W.of_hideAll _ q,PySem.W.hideAll_none _ aL,?_,oe,vs,T,oT,ts,e1,⟨e2,e3⟩,e4,e5,PySem.W.hideAll_none _ (aI _ aL),e6,e7,e8,e9⟩,e7,e8,e10⟩;exact PySem.W.funFrames_hide I.stack λenv he a ha=>aI _ (aI _ (List.mem_filterMap.mpr ⟨env,he,ha⟩))
theorem bL.back(I:Inv X pins σ H s)(hex:X.ex=[])(me:Apart X pins H x){ox:Obj}{vs:Array ae}(hx:s.heap.get? x=some ox)(hxd:ox.data=.fields vs){oT:Obj}{ts:Array ae}(hT:s.heap.get? T=some oT)(hTd:oT.data=.fields ts)(aT:Apart X pins H T)
  {l:List Env}{h':Heap} (W:cL (PySem.W.hideAll s.heap (x::T::frs X.stack)) l x (jc cls dx) h') (u:s.heap.UpToSlots h') :
  Inv X pins σ H {s with heap:=h'}/\bL X pins H h' x cls dx:=by
 obtain⟨w1,w2,w3,oe',vs',T',oT',ts',f1,⟨f2,f3⟩,f4,f5,f6,f7,f8,f9,f10⟩:=W;obtain⟨nx1,nx2,nx3,nx4⟩:=I.rec_ne hx hxd;obtain⟨nt1,nt2,nt3,nt4⟩:=I.rec_ne hT hTd;have frd:∀b o,(b∈frs X.stack\/b=X.env.locals\/b∈X.fs)->s.heap.get? b=some o->∀ws,o.data≠.fields ws:=λb o hb e ws d=>by
  obtain⟨n1,n2,n3,n4⟩:=I.rec_ne e d;rcases hb with z|z|z
  ·exact n4 z
  ·exact n1 z
  ·exact n3 z
 have nch:∀b,b∉[x,T]->b∉frs X.stack->b∉(x::T::frs X.stack):=λb h1 h2 h3=>by
  rcases aG.mp h3 with z|h3
  ·exact h1 (by simp[z])
  ·rcases aG.mp h3 with z|h3
   ·exact h1 (by simp[z])
   ·exact h2 h3
 refine⟨?_,me,oe',vs',T',oT',ts',f1,f2,f3,f4,f5,f7,f8,f9,f10,?_⟩
 ·refine I.stepN (t':=s.toks) (ch:=[x,T]) hex (λb hb=>?_) (λb o h1 h2 h3 h4 e=>w1 b o (cJ _ e (nch b h4 h1))) (λb o hb e=>u b o e (frd b o hb e)) λb o h4 e=>?_
  ·rcases aG.mp hb with z|hb
   ·subst z;exact⟨me,nx1,nx2,nx3⟩
   ·have z:b=T:=by simpa using hb
    subst z;exact⟨aT,nt1,nt2,nt3⟩
  ·by_cases hb:b∈frs X.stack
   ·obtain⟨sl,q⟩:=u b o e (frd b o (.inl hb) e);exact⟨_,q⟩
   ·exact⟨o,w1 b o (cJ _ e (nch b h4 hb))⟩
 ·by_cases hTT:T'=T
  ·rw[hTT];exact aT
  ·by_cases hTf:T'∈frs X.stack
   ·obtain⟨_,o,ho,hn⟩:=I.stack.mem hTf;obtain⟨sl,q⟩:=u T' o ho hn;rw[q]at f8;have z:({o with slots:=sl}:Obj)=oT':=bg f8;subst z;exact absurd f9 (hn ts')
   ·have hnone:s.heap.get? T'=none:=by
     cases q:s.heap.get? T' with
     |none=>rfl
     |some o=>
      have:(PySem.W.hideAll s.heap (x::T::frs X.stack)).get? T'=some o:=cJ _ q (nch T' (by simp[f7,hTT]) hTf);rw[f6]at this;cases this
    refine⟨?_,I.hok.free_of hnone,λp hp z=>?_⟩
    ·cases q:X.s₀.heap.get? T' with
     |none=>rfl
     |some o=>
      obtain⟨o',e'⟩:=I.base.there T' o q (by rw[hex];simp);rw[hnone]at e';cases e'
    ·have:=(I.pin p hp).1;rw[z,hnone]at this;cases this
theorem gB{P:av}{w:au}(hP:X.prog=P)(hw:X.w=w)(I:Inv X pins σ H s)(hex:X.ex=[]){E:XK}{e:ae}{s':af}(h:CX1 P w X.stack H s E e s') :
  ∃x cls dx H',e=.ref x/\Inv X pins σ H' s'/\bL X pins H' s'.heap x cls dx/\E cls dx H':=by
 subst hP hw;obtain⟨x,cls,dx,H',rfl,os,bare,un,hok,F,q⟩:=h;have ap:∀b,s.heap.get? b=none->H' b=none->Apart X pins H' b:=λb h1 h2=>by
  refine⟨?_,h2,λp hp z=>?_⟩
  ·cases q:X.s₀.heap.get? b with
   |none=>rfl
   |some o=>
    obtain⟨o',e'⟩:=I.base.there b o q (by rw[hex];simp);rw[h1]at e';cases e'
  ·have:=(I.pin p hp).1;rw[z,h1]at this;cases this
 obtain⟨oe,vs,T,oT,ts,e1,e2,e3,e4,e5,e6,e7,e8,e9,e10,e11⟩:=F.tr;exact⟨x,cls,dx,H',rfl,I.call' (ch:=[]) os un hok bare (λb z=>absurd z (by simp)),⟨ap x F.new F.free,oe,vs,T,oT,ts,e1,e2,e3,e4,e5,e6,e7,e8,e9,ap T e10 e11⟩,q⟩
theorem bL.leaves(I:Inv X pins σ H s)(hex:X.ex=[]){env:Env}{outer:List Env}(hst:X.stack=X.env::X.outer)(hfr:X.env.frame=some X.env.locals)(F:bL X pins H s.heap x cls dx){E:XK}(q:E cls dx H)
  {EE:ae->af->Prop}:ai (aj X.prog X.w) X.A (leaving X.env (.ref x)) (λ_ s''=>CX1 X.prog X.w X.outer X.H₀ X.s₀ E (.ref x) s'') EE s:=by
 obtain⟨oe,vs,_,_,_,e1,_,_,e4,_⟩:=id F.tr;obtain⟨T,oT,ts,W,hT,hTd,aT⟩:=bL.flying I F;have hfrm:=I.ok.frames;rw[hst]at hfrm W;refine yJ (gz _ _) hfrm hfr W λh' W' u=>?_
 rw[<-hst]at W';obtain⟨I',F'⟩:=bL.back I hex F.me e1 e4 hT hTd aT W' u;obtain⟨oe',vs',T',oT',ts',f1,f2,f3,f4,f5,f6,f7,f8,f9,f10⟩:=F'.tr;have hb:=I'.base;rw[hex]at hb;exact⟨x,cls,dx,H,rfl,I'.os,I'.bare,hb,I'.hok,⟨F'.me.new,F'.me.free,oe',vs',T',oT',ts',f1,f2,f3,f4,f5,f6,f7,f8,f9,f10.new,f10.free⟩,q⟩
end
section
variable{P:av}{w:au}{K:aq}{mg:Str->Option ae}{base:Heap}{N:List Str}{qual:Str}{scope:aN}{f:Addr}{cd:ae}{A:aw}{outer:List Env}{s₀:af}{H₀:Hp}{E:XK}
theorem yg:Passes (CX1 P w) (cU (CX1 P w) P w K mg base N qual scope f cd A outer s₀ H₀ E) E:=by
 intro pins σ H s e s' I h;obtain⟨x,cls,dx,H',rfl,I',F,q⟩:=gB rfl rfl I rfl h;exact bL.leaves (env:=(cU (CX1 P w) P w K mg base N qual scope f cd A outer s₀ H₀ E).env) (outer:=outer) I' rfl rfl rfl F q
theorem iX{X:Cx}(hP:X.prog=P)(hw:X.w=w):Passes (CX1 P w) X E0:=by
 intro pins σ H s e s' I h;obtain⟨x,cls,dx,H',rfl,_,_,_,_,_,q⟩:=h;exact q.elim
structure MadeX(X:Cx)(pins:List (Addr×Obj))(H:Hp)(h:Heap)(e:Addr)(cls:ae)(dx:Option Addr):Prop where
 me:Apart X pins H e
 tr:∃oe vs,h.get? e=some oe/\oe.cls=cls/\oe.dict=dx/\oe.data=.fields vs/\vs[1]? = some .none
noncomputable def Throws(X:Cx)(E:XK):Prop:=∀(pins:List (Addr×Obj)) (σ:St) (H:Hp) (s:af) (e:Addr) (cls:ae) (dx:Option Addr),Inv X pins σ H s->MadeX X pins H s.heap e cls dx->E cls dx H->X.xe (.ref e) s
theorem xo:Throws (cU (CX1 P w) P w K mg base N qual scope f cd A outer s₀ H₀ E) E:=by
 intro pins σ H s e cls dx I M q;generalize hX:cU (CX1 P w) P w K mg base N qual scope f cd A outer s₀ H₀ E=X at I M;have hex:X.ex=[]:=by rw[<-hX];rfl
 have hst:X.stack=X.env::X.outer:=by rw[<-hX];rfl
 have hfr:X.env.frame=some X.env.locals:=by rw[<-hX];rfl
 have hxe:X.xe=λe s'=>ai (aj X.prog X.w) X.A (leaving X.env e) (λ_ s''=>CX1 X.prog X.w X.outer X.H₀ X.s₀ E e s'') (λe' s''=>CX1 X.prog X.w X.outer X.H₀ X.s₀ E e' s'') s':=by rw[<-hX];rfl
 rw[hxe];have hfrm:=I.ok.frames;have hstk:=I.stack;obtain⟨oe,vs,m1,m2,m2',m3,m4⟩:=M.tr;obtain⟨n1,n2,n3,n4⟩:=I.rec_ne m1 m3;have hB:(PySem.W.hideAll s.heap (e::frs X.stack)).StaysIn s.heap:=λb o q=>PySem.W.of_hideAll _ q
 have hF:=PySem.W.funFrames_hide (as:=e::frs X.stack) hstk λenv he a ha=>aI _ (List.mem_filterMap.mpr ⟨env,he,ha⟩)
 rw[hst]at hfrm;have hF':s.heap.FunFrames (PySem.W.hideAll s.heap (e::frs X.stack)) (X.env::X.outer):=by rw[<-hst];exact hF
 refine tH (gz cls dx) ⟨m2,m2'⟩ hfrm hfr hB hF' m1 (PySem.W.hideAll_none _ aL) m3 m4 λh'' W u=>?_
 obtain⟨w1,w2,w3,oe',vs',T',oT',ts',f1,⟨f2,f3⟩,f4,f5,f6,f7,f8,f9,f10⟩:=W;have frd:∀b o,(b∈frs X.stack\/b=X.env.locals\/b∈X.fs)->s.heap.get? b=some o->∀ws,o.data≠.fields ws:=λb o hb e ws d=>by
  obtain⟨n1,n2,n3,n4⟩:=I.rec_ne e d;rcases hb with z|z|z
  ·exact n4 z
  ·exact n1 z
  ·exact n3 z
 have nin:∀b,b∉[e]->b∉frs X.stack->b∉(e::frs X.stack):=λb h1 h2 h3=>by
  rcases aG.mp h3 with z|h3
  ·exact h1 (by simp[z])
  ·exact h2 h3
 have slot:∀b o,(b∈frs X.stack\/b=X.env.locals\/b∈X.fs)->s.heap.get? b=some o->∃sl,h''.get? b=some {o with slots:=sl}:=λb o hb e=>u b o e (frd b o hb e)
 have I':Inv X pins σ H {s with heap:=h''}:=I.stepN (t':=s.toks) (ch:=[e]) hex (λb hb=>by have z:b=e:=(by simpa using hb);subst z;exact⟨M.me,n1,n2,n3⟩) (λb o h1 _ _ h4 e=>w1 b o (cJ _ e (nin b h4 h1))) slot λb o h4 e=>by
  by_cases hb:b∈frs X.stack
  ·obtain⟨sl,q⟩:=slot b o (.inl hb) e;exact⟨_,q⟩
  ·exact⟨o,w1 b o (cJ _ e (nin b h4 hb))⟩
 have ap:∀b,s.heap.get? b=none->X.s₀.heap.get? b=none/\H b=none:=λb h1=>by
  refine⟨?_,I.hok.free_of h1⟩;cases q:X.s₀.heap.get? b with
  |none=>rfl
  |some o=>
   obtain⟨o',e'⟩:=I.base.there b o q (by rw[hex];simp);rw[h1]at e';cases e'
 have hT:s.heap.get? T'=none:=by
  by_cases hTf:T'∈frs X.stack
  ·obtain⟨_,o,ho,hn⟩:=hstk.mem hTf;obtain⟨sl,q⟩:=slot T' o (.inl hTf) ho;rw[q]at f8;have z:({o with slots:=sl}:Obj)=oT':=bg f8;subst z;exact absurd f9 (hn ts')
  ·cases q:s.heap.get? T' with
   |none=>rfl
   |some o=>
    have:(PySem.W.hideAll s.heap (e::frs X.stack)).get? T'=some o:=cJ _ q (nin T' (by simp[f7]) hTf);rw[f6]at this;cases this
 have hb:=I'.base;rw[hex]at hb;exact⟨e,cls,dx,H,rfl,I'.os,I'.bare,hb,I'.hok,⟨M.me.new,M.me.free,oe',vs',T',oT',ts',f1,f2,f3,f4,f5,f7,f8,f9,f10,(ap T' hT).1,(ap T' hT).2⟩,q⟩
theorem Inv.more{X:Cx}{pins:List (Addr×Obj)}{σ:St}{H:Hp}{s:af}(I:Inv X pins σ H s)(hex:X.ex=[]){h':Heap}(k:∀b o,s.heap.get? b=some o->h'.get? b=some o):Inv X pins σ H {s with heap:=h'}:=
 I.stepN (t':=s.toks) (ch:=[]) hex (λb hb=>absurd hb (by simp)) (λb o _ _ _ _ e=>k b o e) (λb o _ e=>⟨o.slots,k b o e⟩) λb o _ e=>⟨o,k b o e⟩
theorem Inv.apart{X:Cx}{pins:List (Addr×Obj)}{σ:St}{H:Hp}{s:af}(I:Inv X pins σ H s)(hex:X.ex=[]){e:Addr}(n:s.heap.get? e=none):Apart X pins H e:=by
 refine⟨?_,I.hok.free_of n,λp hp z=>?_⟩
 ·cases q:X.s₀.heap.get? e with
  |none=>rfl
  |some o=>
   obtain⟨o',e'⟩:=I.base.there e o q (by rw[hex];simp);rw[n]at e';cases e'
 ·have:=(I.pin p hp).1;rw[z,n]at this;cases this
theorem Inv.madeX{X:Cx}{pins:List (Addr×Obj)}{σ:St}{H:Hp}{s:af}(I:Inv X pins σ H s)(hex:X.ex=[]){h':Heap}{e:Addr}{cls:ae}{args:List ae}(M:Heap.MadeExcOf s.heap h' e cls args):MadeX X pins H h' e cls none:=by
 obtain⟨t,z,_⟩:=M.there;exact⟨I.apart hex M.new,_,_,z,rfl,rfl,rfl,rfl⟩
end
abbrev cz:List Value:=[.type "ValueError",.type "Exception",.type "BaseException",.type "object"]
noncomputable def iM(K:aq)(C:Addr):Prop:=PySem.W.excIn K C cz "ValueError.__new__" = true
theorem kJ{K:aq}{h:Heap}{C:Addr}{bmB:List ae}{newId:String}(Z:K.In h)(q:PySem.W.excIn K C bmB newId=true) :
  ∃bm N nm qn bs hdct sn sub ab col dd k0 k1 k2 k3 k5 mN,h.get? C=some (excClassObj nm qn C N bs bm hdct sn sub ab col dd k0 k1 k2 k3 k5 newId)/\h.Ns N mN/\mN "__init__" = none/\OwnTail h bmB bm:=by
 unfold PySem.W.excIn at q;split at q
 ·rename_i dict cdat slots look
  split at q
  ·rename_i C2 bm2 j0 j1 j2 j3 nid j5 hmro hslots
   simp only[aJ,beq_iff_eq,bH]at q;obtain⟨⟨⟨⟨⟨rfl,rfl⟩,nodel⟩,tl⟩,nsok⟩,noinit⟩:=q;obtain⟨c1,c2,c3,c4,c5,c6,c7,c8,c9,c10,c11⟩:=cdat;dsimp only at hmro nodel nsok noinit;subst hmro nodel;have hsl:slots = #[j0,j1,j2,j3,some (.builtin nid),j5]:=by
    obtain⟨sl⟩:=slots;simp only at hslots;rw[hslots]
   subst hsl;exact⟨bm2,c4,c1,c5,c2,c6,c7,c8,c9,c10,dict,j0,j1,j2,j3,j5,_,Z _ _ look,.of_isNs (PySem.W.isNs_of_in Z nsok),PySem.W.nsMap_none_of_in Z nsok noinit,PySem.W.tail_of_in Z tl⟩
  ·cases q
 ·cases q
section
variable{X:Cx}{C:Addr}{x:Str}{E:XK}{t:TA}{e:Expr}{es:List Expr}{np cpos pos:Pos}
noncomputable def pA(C:Addr)(E:XK)(t:TA):TS:=λ_ σ H=>t σ H λvs H1=>vs.length<=aK/\E (.ref C) none H1
theorem Ak(hex:X.ex=[])(hc:X.calm=true)(hT:Throws X E)(hC:iM X.K C)(hg:Gl X x)(hm:X.mg x=some (.ref C))(ha:PA X (e::es) t)(hd:(x==("__debug__" : Str))=false:=by decide)
  (he:aH (e::es) X.env=(false,eval e X.env)::aH es X.env:=by rfl) (hpl:(backTo cpos (aH es X.env)).any (·.1)=false:=by rfl) :
  PS X (.Raise (some (.Call (.Name x np) (e::es) [] cpos)) none pos) (pA C E t):=by
 intro pins s σ H D I h;obtain⟨bm,N,nm,q,bs,hdct,sn,sub,ab,col,dd,k0,k1,k2,k3,k5,mN,hO,hN,hni,T⟩:=kJ I.mod.kin hC;refine wpAny_Raise_call_subT (C:=C) (nm:=nm) (q:=q) (N:=N) (bs:=bs) (bm:=bm) (hdct:=hdct) (sn:=sn) (sub:=sub) (ab:=ab) (col:=col) (dd:=dd) (k0:=k0) (k1:=k1) (k2:=k2) (k3:=k3) (k5:=k5)
  PySem.F.excBase_ValueError (mN:=mN) (T.hasType PySem.F.excBase_ValueError.hasBase) (I.ok.hd hc) ?_ hni (d_ I hg hm ⟨rfl,?_⟩ hd)
 ·rw[he];show (false||(backTo cpos (aH es X.env)).any (·.1))=false;rw[hpl];rfl
 ·have ha':=ha cpos pins s σ H _ I h;rw[he]at ha' ⊢;exact Calls.evalArgs_plain (thn ha' λus s1 ⟨vs,H1,I1,r,z,q⟩=>⟨rfl,by rw[<-r.length];exact z,I1.bk _ _ hO,hN.keeps I1.bk,T.keeps I1.bk,λh' e' M=>hT pins σ H1 {s1 with heap:=h'} e' _ none (I1.more hex M.keeps) (I1.madeX hex M) q⟩)
end
structure dm(k:Nat)(A:aw):Prop where
 dp:A.depth+3 * k+5<recursionLimit
 un:A.units+16 * k+200<cLine
theorem bP.u{k:Nat}{A:aw}(r:bP k A):dm k A:=⟨r.dp,r.un⟩
theorem bP.mark{k:Nat}{A:aw}(r:bP k A)(v:Option ae):dm k (A.mark v):=⟨r.dp,r.un⟩
theorem dm.deeper{k:Nat}{A:aw}(r:dm (k+1) A)(env:Env):dm k (A.deeper env):=
 ⟨by have:=r.dp;show A.depth+1+3 * k+5<_;lia,by have:=r.un;show A.units+3+16 * k+200<_;lia⟩
structure fw(P:av)(w:au)(K:aq)(mg:Str->Option ae)(base:Heap)(CX:CXT)(k:Nat)(f:Addr)(fd:bw)(ps:List Str)(sp:Sp):Prop where
 len:∀vs H Q E,sp vs H Q E->vs.length=ps.length
 run:∀(A:aw) (outer:List Env) (s:af) (H:Hp) (args:Args) (us:List ae) (vs:List V) (Q:VK) (E:XK),dm k A->ee P w K mg base A outer s H->BindsTo s fd args (ps.zip us)->Vals vs us->sp vs H Q E ->
  codeAny (aj P w) A (.call (.ref f) args) (CR CX outer P w H s Q E) s
section
variable{CX:CXT}{P:av}{w:au}{K:aq}{mg:Str->Option ae}{base:Heap}{k:Nat}{f:Addr}{fd:bw}{ps:List Str}{sp:Sp}
abbrev et(CX:CXT)(P:av)(w:au)(K:aq)(mg:Str->Option ae)(base:Heap)(N:List Str)(qual:Str)(scope:aN)(f:Addr)(cd:ae)(A:aw)(outer:List Env)(s:af)(H:Hp)(E:XK):Cx:=
 {cU CX P w K mg base N qual scope f cd A outer s H E with calm:=false}
theorem vy{N:List Str}{qual:Str}{scope:aN}{cd:ae}{A:aw}{outer:List Env}{s s1:af}{H:Hp}{E:XK}{us:List ae}{vs:List V}
  (S:eB N ps scope) (e0:ee P w K mg base A outer s H) (hl:vs.length=ps.length) (r:Vals vs us)
  (x:InCallC s s.heap.objs.size (bindL (envOfC qual scope s.heap.objs.size f cd).kindOf (ps.zip us) λ_=>none) (aU (s.heap.objs.size+1) scope.names []) (bindC (envOfC qual scope s.heap.objs.size f cd).kindOf (ps.zip us) λ_=>none) s1) :
  Inv (et CX P w K mg base N qual scope f cd A outer s H E) [] (start N vs) H s1:=by
 have e1:ee P w K mg base {A with handled:=none} outer s H:=⟨e0.frames,e0.mod,e0.bs,e0.bsz,e0.funs,e0.frf,e0.hok,e0.bare⟩
 have I:=lZ (CX:=CX) (E:=E) (qual:=qual) (A:={A with handled:=none}) (cd:=cd) (f:=f) S rfl e1 hl r x;exact⟨⟨I.ok.mod,I.ok.kind,I.ok.glob,I.ok.blt,I.ok.above,I.ok.inj,I.ok.has,I.ok.cab,λz=>absurd z bS,aw.frames_deeper e0.frames,I.ok.stk,I.ok.exf,I.ok.bs,I.ok.bsz,I.ok.noex,I.ok.exfs,I.ok.funs,I.ok.frf⟩,
  I.os,I.bare,I.base,I.loc,I.cell,I.free,I.freeC,I.pin,I.hok,I.len⟩
theorem vm{name qual:Str}{params:Arguments}{body:List Stmt}{scope:aN}{dV kV doc pm cdv ct oc:ae}{an od:Option Addr}
  {osl:Array (Option ae)}{N:List Str} (lk:K.lookup f=some ⟨oc,od,.func (bJ name qual params body scope dV kV doc pm an cdv ct),osl⟩) (hcd:PySem.W.codeIn K cdv qual=true) (S:eB N ps scope)
  (len:∀vs H Q E,sp vs H Q E->vs.length=ps.length)
  (hbody:∀(A:aw) (outer:List Env) (s:af) (H:Hp) (vs:List V) (Q:VK) (E:XK),dm k (A.deeper (envOfC qual scope s.heap.objs.size f cdv))->sp vs H Q E ->
   ∃t,PSs (et CX P w K mg base N qual scope f cdv A outer s H E) body t/\t {nx:=λ_ H'=>Q .non H',rt:=Q} (start N vs) H) :
  fw P w K mg base CX (k+1) f (bJ name qual params body scope dV kV doc pm an cdv ct) ps sp:=by
 refine⟨len,λA outer s H args us vs Q E hr e0 hb r hsp=>?_⟩;have hl:=len _ _ _ _ hsp;have KX:K.In s.heap:=e0.mod.kin.keeps λb o e=>(e0.bs b o e).1
 have lim:s.heap.NoLimit:=e0.mod.nolimit.keeps λb o e=>(e0.bs b o e).1
 have hkind:∀y∈ps.zip us,scope.names.lookup y.1=some .local\/(scope.names.lookup y.1=some .cell/\((aU (s.heap.objs.size+1) scope.names []).lookup y.1).isSome=true):=λ⟨n,v⟩ hy=>by
  rcases S.par n (List.of_mem_zip hy).1 with q|q
  ·exact .inl q
  ·exact .inr ⟨q,PySem.W.cellsFrom_some _ _ _ (.inl q)⟩
 refine codeAny_call_function (by have:=hr.dp;lia) (KX _ _ lk) rfl S.co S.gen rfl (PySem.W.codeRec_of KX hcd) (hb _ _ _ _ ?_);refine wpAny_newFunctionEnv_cells S.kind hkind λenv he s1 x=>?_
 subst he;refine⟨lim.keeps x.toInCall.keep,codeAny_func ?_⟩;obtain⟨t,ht,hq⟩:=hbody A outer s H vs Q E (hr.deeper _) hsp;have I:Inv (et CX P w K mg base N qual scope f cdv A outer s H E) [] (start N vs) H s1:=vy S e0 hl r x;refine bu (ht [] s1 (start N vs) H _ I hq) (λfl s' hs=>?_) λe s' hs=>hs
 have fin:∀{σ':St}{H':Hp}{v:V}{u:ae},Inv (et CX P w K mg base N qual scope f cdv A outer s H E) [] σ' H' s'->RelV v u->Q v H'->CE outer P w H s Q u s':=
  λ{σ' H' v u} J rv q=>⟨v,H',J.os,J.bare,J.base,J.hok,rv,q⟩
 cases fl with
 |ret u=>
  obtain⟨v,σ',H',J,rv,q⟩:=hs;exact fin J rv q
 |next=>
  obtain⟨σ',H',J,q⟩:=hs;exact fin (v:=V.non) (u:=bf) J rfl q
 |brk=>
  obtain⟨_,_,_,q⟩:=hs;exact aP q
 |cont=>
  obtain⟨_,_,_,q⟩:=hs;exact aP q
end
section
variable{X:Cx}{CX:CXT}{k:Nat}{f:Addr}{fd:bw}{ps:List Str}{sp:Sp}{dvs:List V}{ds:List ae}{E:XK}{x:Str}{p pos:Pos}{e:Expr}{es:List Expr}{t:TA}
theorem rq{pins:List (Addr×Obj)}{σ:St}{H:Hp}{s:af}{Q:VK}{us:List ae}{vs:List V}(F:fw X.prog X.w X.K X.mg X.base CX k f fd ps sp)(hr:dm k X.A)(hb:Binds X.K fd ps ds)(hd:Vals dvs ds)(hx:Passes CX X E)
  (I:Inv X pins σ H s) (r:Vals vs us) (h:sp (vs++dvs) H Q E):ai (aj X.prog X.w) X.A (call (.ref f) us) (EP X pins σ Q) X.xe s:=by
 have r2:Vals (vs++dvs) (us++ds):=r.append hd;have hl:(us++ds).length=ps.length:=by rw[<-r2.length];exact F.len _ _ _ _ h
 refine wpAny_call (codeAny_mono (F.run X.A X.stack s H ⟨us,[]⟩ (us++ds) (vs++dvs) Q E hr I.env0 (hb s us I.kIn hl) r2 h) λr s' hq=>?_);cases r with
 |error e=>exact hx pins σ H s e s' I hq
 |ok fl=>
  cases fl with
  |ret u=>exact I.after hq
  |next=>exact aP hq
  |brk=>exact aP hq
  |cont=>exact aP hq
theorem rZ(F:fw X.prog X.w X.K X.mg X.base CX k f fd ps sp)(hr:dm k X.A)(hg:Gl X x)(hm:X.mg x=some (.ref f))(hk:bT X.K (.ref f)=true)(hb:Binds X.K fd ps ds)(hd:Vals dvs ds)(hx:Passes CX X E)
  (ha:PA X (e::es) t) (hdb:(x==("__debug__" : Str))=false:=by decide) (he:aH (e::es) X.env=(false,eval e X.env)::aH es X.env:=by rfl) (hpl:(backTo pos (aH es X.env)).any (·.1)=false:=by rfl) :
  PE X (.Call (.Name x p) (e::es) [] pos) (i' sp dvs E t):=by
 intro pins s σ H Q I h;refine wpAny_Call_Name_kw (d_ I hg hm ?_ hdb);refine PySem.W.callWith_K (h₀:=X.base) I.ok.mod.kin hk (thn (ha pos pins s σ H _ I h) λus s1 ⟨vs,H1,I1,r,q⟩=>⟨I1.kIn,?_⟩) he hpl;exact rq F hr hb hd hx I1 r q
end
noncomputable def dJ(x:Addr)(cls:ae)(dx:Option Addr):HO:=.ext λh=>∃o vs,h.get? x=some o/\o.cls=cls/\o.dict=dx/\o.data=.fields vs
abbrev Cx.held(X:Cx)(x:Addr):Cx:={X with A:=X.A.mark (some (.ref x)),calm:=false,xe:=λ_ _=>False}
section
variable{X:Cx}{pins:List (Addr×Obj)}{σ:St}{H:Hp}{s:af}
theorem Inv.hold(I:Inv X pins σ H s)(x:Addr):Inv (X.held x) pins σ H s:=
 ⟨⟨I.ok.mod,I.ok.kind,I.ok.glob,I.ok.blt,I.ok.above,I.ok.inj,I.ok.has,I.ok.cab,λz=>absurd z bS,I.ok.frames,I.ok.stk,I.ok.exf,I.ok.bs,I.ok.bsz,I.ok.noex,I.ok.exfs,I.ok.funs,I.ok.frf⟩,
  I.os,I.bare,I.base,I.loc,I.cell,I.free,I.freeC,I.pin,I.hok,I.len⟩
theorem Inv.unhold{x:Addr}(ok:X.Ok)(I:Inv (X.held x) pins σ H s):Inv X pins σ H s:=⟨ok,I.os,I.bare,I.base,I.loc,I.cell,I.free,I.freeC,I.pin,I.hok,I.len⟩
theorem Inv.track(I:Inv X pins σ H s){x:Addr}{o:HO}(hex:X.ex=[])(a:Apart X pins H x)(hl:x≠X.env.locals)(hc:∀y c,X.env.cells.lookup y=some c->c≠x)(ok:zy X.prog X.w (upd H x o) s.heap x o):Inv X pins σ (upd H x o) s:=by
 have nx:∀b u,H b=some u->b≠x:=λb u e z=>by rw[z,a.free]at e;cases e
 refine⟨I.ok,I.os,I.bare,⟨I.base.keep,I.base.slot,λb ob e n h=>?_,I.base.there,λb xs e=>?_,λb ob u e=>?_,λb ps e=>?_⟩,I.loc,I.cell,?_,λy c e=>?_,λp hp=>?_,λb u e=>?_,I.len⟩
 ·rw[qg (λz=>by rw[z,a.new]at e;cases e)];exact I.base.free b ob e n h
 ·have:=I.base.tups b xs e;rw[qg (nx b _ this)];exact this
 ·have:=I.base.frzs b ob u e;rw[qg (nx b _ this)];exact this
 ·obtain⟨more,q⟩:=I.base.tbls b ps e;exact⟨more,by rw[qg (nx b _ q)];exact q⟩
 ·rw[qg (Ne.symm hl)];exact I.free
 ·rw[qg (hc y c e)];exact I.freeC y c e
 ·obtain⟨e,n,r⟩:=I.pin p hp;exact⟨e,by rw[qg (a.pin p hp)];exact n,r⟩
 ·by_cases hb:b=x
  ·subst hb;rw[zp]at e;cases e;exact ok
  ·rw[qg hb]at e;refine(I.hok b u e).stay (λc v _ q=>q) (λc q=>?_) λc xs q=>?_
   ·rw[qg (nx c _ q)];exact q
   ·rw[qg (nx c _ q)];exact q
theorem Inv.forget{h':Heap}{m':Str->Option ae}{t':Nat}(I:Inv X pins σ H s)(hn:h'.Ns X.env.locals m')(hs:Heap.SameBut X.env.locals s.heap h'):Inv X pins (σ.map λ_=>none) H {s with heap:=h',toks:=t'}:=by
 have up:∀b o,X.s₀.heap.get? b=some o->b≠X.env.locals:=λb o e=>aS (aY (aC e) I.ok.above)
 refine⟨I.ok,I.os,I.bare,⟨λb o e n hb hx=>?_,λb o e n hb hx=>?_,I.base.free,λb o e hx=>?_,I.base.tups,I.base.frzs,I.base.tbls⟩,⟨m',hn,λj y v' e1 e2 e3=>?_⟩,λy c e=>?_,I.free,I.freeC,λp hp=>?_,λb ob e=>?_,by simpa using I.len⟩
 ·exact(hs.2 b (up b o e)).trans (I.base.keep b o e n hb hx)
 ·obtain⟨sl,e1⟩:=I.base.slot b o e n hb hx;exact⟨sl,(hs.2 b (up b o e)).trans e1⟩
 ·obtain⟨o',e1⟩:=I.base.there b o e hx;exact⟨o',(hs.2 b (up b o e)).trans e1⟩
 ·rw[List.getElem?_map]at e2;cases q:σ[j]? with
  |none=>rw[q]at e2;cases e2
  |some z=>rw[q]at e2;cases e2
 ·obtain⟨w',z⟩:=I.cell y c e;exact⟨w',z.sameBut hs (I.cne y c e)⟩
 ·obtain⟨e,n,ne,nf,d⟩:=I.pin p hp;exact⟨(hs.2 p.1 ne).trans e,n,ne,nf,d⟩
 ·refine(I.hok b ob e).stay (λc w' hc q=>(hs.2 c ?_).trans q) (λ_ q=>q) λ_ _ q=>q
  rintro rfl;rcases hc with rfl|hc
  ·rw[I.free]at e;cases e
  ·rw[I.free]at hc;cases hc
end
noncomputable def tO(i:Nat)(K:aq)(C:Addr)(n:Nat)(tb:TS)(Eh:XK)(ts:TS):TS:=λD σ H=>tb {D with nx:=D.nx} σ H /\
 ∀(τ:St) (cls:ae) (dx:Option Addr) (H':Hp) (x:Addr),τ.length=n->Eh cls dx H'->H' x=none->bG K cls (.ref C)=some true /\
  ts {nx:=λ_ _=>False,rt:=D.rt} (τ.set i (some (.ref x))) (upd H' x (dJ x cls dx))
abbrev Cx.inTry(X:Cx)(pn:List (Addr×Obj))(Et:ae->af->Prop):Cx:={X with pn:=pn,xe:=Et}
theorem yU{X:Cx}{i:Nat}{C:Addr}{cn n:Str}{np hpos pos:Pos}{body:List Stmt}{b₀:Stmt}{suite:List Stmt}{tb ts:TS}{Eh:XK}(hex:X.ex=[])(hst:X.stack=X.env::X.outer)(hfr:X.env.frame=some X.env.locals)
  (hN:X.N.Nodup) (hi:X.N[i]? = some n) (hl:X.env.scope.names.lookup n=some .local) (hg:Gl X cn) (hm:X.mg cn=some (.ref C))
  (hb:∀pn Et,Passes (CX1 X.prog X.w) (X.inTry pn Et) Eh->PSs (X.inTry pn Et) body tb) (hs:∀x,PSs (X.held x) (b₀::suite) ts) (hd:(cn==("__debug__" : Str))=false:=by decide) :
  PS X (.Try body [.ExceptHandler (some (.Name cn np)) (some n) (b₀::suite) hpos] [] [] pos) (tO i X.K C X.N.length tb Eh ts):=by
 intro pins s σ H D I h;obtain⟨h1,h2⟩:=h;refine wpAny_Try_except ?_;have okT:∀Et,(X.inTry (X.pn++pins) Et).Ok:=λEt=>
  ⟨I.ok.mod,I.ok.kind,I.ok.glob,I.ok.blt,I.ok.above,I.ok.inj,I.ok.has,I.ok.cab,I.ok.hd,I.ok.frames,I.ok.stk,I.ok.exf,I.ok.bs,I.ok.bsz,I.ok.noex,I.ok.exfs,I.ok.funs,I.ok.frf⟩
 have toT:∀{Et σ H s},Inv X pins σ H s->Inv (X.inTry (X.pn++pins) Et) [] σ H s:=λ{Et σ H s} J=>
  ⟨okT Et,J.os,J.bare,J.base,J.loc,J.cell,J.free,J.freeC,λp hp=>J.pin p (by simpa using hp),J.hok,J.len⟩
 have ofT:∀{Et pins' σ H s},Inv (X.inTry (X.pn++pins) Et) pins' σ H s->Inv X pins σ H s:=λ{Et pins' σ H s} J=>
  ⟨I.ok,J.os,J.bare,J.base,J.loc,J.cell,J.free,J.freeC,λp hp=>J.pin p (List.mem_append_left _ hp),J.hok,J.len⟩
 have hcls:(X.env.scope.kind==.class||(X.env.scope.kind==.module&&X.env.locals != X.env.globals))=false:=by rw[I.ok.kind];rfl
 have hP:Passes (CX1 X.prog X.w) (X.inTry (X.pn++pins) λe s₁=>ai (aj X.prog X.w) X.A (noteFrame e X.env) (λ_ s₂=>ai (aj X.prog X.w) X.A (setFlight e none) (λ_ s₃=>
   ai (aj X.prog X.w) X.A (handleBy e X.env [.ExceptHandler (some (.Name cn np)) (some n) (b₀::suite) hpos]) (SP X pins D) X.xe s₃) X.xe s₂) X.xe s₁) Eh:=by
  intro pins' σ' H' s' e s'' I' hcx;obtain⟨x,cls,dx,H2,rfl,I2,F2,q⟩:=gB (X:=X.inTry (X.pn++pins) _) rfl rfl I' hex hcx;have I3:Inv X pins σ' H2 s'':=ofT I2;have ap:∀{Et b},Apart (X.inTry (X.pn++pins) Et) pins' H2 b->Apart X pins H2 b:=λ{Et b} a=>⟨a.new,a.free,λp hp=>a.pin p (List.mem_append_left _ hp)⟩
  have F3:bL X pins H2 s''.heap x cls dx:=by
   obtain⟨oe,vs,T,oT,ts,e1,e2,e3,e4,e5,e6,e7,e8,e9,e10⟩:=F2.tr;exact⟨ap F2.me,oe,vs,T,oT,ts,e1,e2,e3,e4,e5,e6,e7,e8,e9,ap e10⟩
  obtain⟨oe,vs,_,_,_,e1,_,_,e4,_⟩:=id F3.tr;obtain⟨T,oT,tts,W,hT,hTd,aT⟩:=bL.flying I3 F3;have hfrm:=I.ok.frames;rw[hst]at hfrm W;refine jo (gz _ _) hfrm hfr W λh4 ⟨w41,w42,w43,w44⟩ u4=>?_
  refine e_ (s:={s'' with heap:=h4}) w41 w42 w43 w44 λh5 W5 u5=>?_
  rw[<-hst]at W5;obtain⟨I5,F5⟩:=bL.back I3 hex F3.me e1 e4 hT hTd aT W5 (u4.trans u5);obtain⟨oe5,vs5,T5,oT5,ts5,g1,g2,g3,g4,g5,g6,g7,g8,g9,g10⟩:=id F5.tr;obtain⟨hx1,hx2⟩:=h2 σ' cls dx H2 x I3.len q F3.me.free;have LT:PySem.W.Looks (aj X.prog X.w) h5 (typeOf (.ref x)) cls:=by
   subst g2;exact(PySem.W.Looks.ld g1).andThen .now
  refine wpAny_handleBy_cons (codeAny_handlers_test (d_ (I5.hold x) hg hm ?_ hd)) (by intro z;cases z);refine PySem.W.exm_one (K:=X.K) I5.kIn LT hx1 _ _ _ _ (λ_ _ e=>e) ?_;refine codeAny_handlers_suite_as ?_;obtain⟨T6,oT6,ts6,⟨w61,w62,w63,w64⟩,hT6,hTd6,aT6⟩:=bL.flying I5 F5;refine e_ (s:={s'' with heap:=h5}) w61 w62 w63 w64 λh6 W6' u6=>?_
  obtain⟨I6,F6⟩:=bL.back I5 hex F5.me g1 g4 hT6 hTd6 aT6 W6' u6;obtain⟨oe6,vs6,_,_,_,k1,k2,k3,k4,_⟩:=id F6.tr;obtain⟨n1,n2,n3,n4⟩:=I6.rec_ne k1 k4;have I7:=I6.track (o:=dJ x cls dx) hex F6.me n1 n2 ⟨⟨oe6,vs6,k1,k2,k3,k4⟩,⟨oe6,k1⟩,λha hb ⟨o,ws,z1,z2,z3⟩ kk=>⟨o,ws,kk o z1,z2,z3⟩⟩;refine iz (X:=X.held x) (v:=.ref x) (I7.hold x) hN hi (.inl hl) rfl (λs8 I8=>?_) (.inr hl);refine bu (hs x pins s8 _ _ _ I8 hx2) (λf s9 r9=>?_) λ_ _ z=>aP z
  cases f with
  |ret u=>
   obtain⟨v,σ9,H9,I9,rv,q9⟩:=r9;have I9':=I9.unhold I.ok;obtain⟨m,hn,_⟩:=I9'.loc;exact wpAny_nameGoes hl hn hcls λh' m' hn' hs'=>⟨v,_,H9,I9'.forget hn' hs',rv,q9⟩
  |next=>obtain⟨_,_,_,z⟩:=r9;exact aP z
  |brk=>obtain⟨_,_,_,z⟩:=r9;exact aP z
  |cont=>obtain⟨_,_,_,z⟩:=r9;exact aP z
 refine thn (hb _ _ hP [] s σ H _ (toT I) h1) λf s1 q=>?_
 cases f with
 |next=>obtain⟨σ1,H1,I1,q1⟩:=q;exact wpAny_execs_nil ⟨σ1,H1,ofT I1,q1⟩
 |brk=>obtain⟨σ1,H1,I1,q1⟩:=q;exact⟨σ1,H1,ofT I1,q1⟩
 |cont=>obtain⟨σ1,H1,I1,q1⟩:=q;exact⟨σ1,H1,ofT I1,q1⟩
 |ret u=>obtain⟨v,σ1,H1,I1,rv,q1⟩:=q;exact⟨v,σ1,H1,ofT I1,rv,q1⟩
end L2
namespace L2
open PySem PySem.Spec PyProof.Rows PySem.W PySem.Calls Builtin Builtin.ObjectAttr Builtin.Getset_descriptor
structure zD(K:Frag)(C:Addr):Prop where
 ga:findIn K (.ref C) "__getattribute__" = some (some (.builtin "BaseException.__getattribute__"))
 gt:findIn K (.ref C) "__getattr__" = some none
 gc:findIn K (.ref C) "__class__" = some (some (.builtin "object.__class__"))
 mb:mroIn K C (.type "BaseException")=some true
 mo:mroIn K C (.type "object")=some true
 cl:∃c dd cd sl,K.lookup C=some ⟨c,dd,.cls cd,sl⟩
section
variable{prog:av}{w:au}{A:aw}{E:ae->af->Prop}{h:Heap}{g:Array GenState}{d:Drawn}{t:Nat}{os:OsState}{x C:Addr}{K:Frag}
theorem vp{R:Result->af->Prop}{tp:ae}(Z:K.In h)(S:zD K C)(L0:Looks (aj prog w) h (typeOf (.ref x)) (.ref C))(hx:∃o,h.get? x=some o/\o.cls=.ref C)(hq:R (.ok (.ret (.ref C))) ⟨h,g,d,t,os⟩) :
  codeAny (aj prog w) A (.call (.builtin "getset_descriptor.__get__") ⟨[.builtin "object.__class__",.ref x,tp],[]⟩) R ⟨h,g,d,t,os⟩:=by
 have L1:=looks_mroIn (M:=aj prog w) Z S.mo;obtain⟨o,ho,hc⟩:=hx;refine codeAny_call_builtin KF.slot_gs.plain KF.entry_gs (KF.slot_gs.check _ _ _ _ _ _ _ _ KF.type_class (KF.args_gs _ _ _) ?_);unfold Builtin.«getset_descriptor.__get__» descrGet;rw[dga_obj];refine ag (ax ?_);unfold descrGetter descrCheckInstance descrNameAndClass isInstance;simp only[KF.owner_class]
 repeat lk
 refine⟨Code.quiet_builtin _ (by decide +kernel),codeAny_builtin KF.entry_class ?_⟩;unfold Builtin.«object.__class__» shownTypeOf
 repeat lk
 exact hq
theorem lB{M:Model}{nameV:ae}{Q:Unit->af->Prop}(Z:K.In h)(S:zD K C)(L0:Looks M h (typeOf (.ref x)) (.ref C))(hq:Q () ⟨h,g,d,t,os⟩) :
  ai M A (checkBuiltinCall "BaseException.__getattribute__" ⟨[.ref x,nameV],[]⟩) Q E ⟨h,g,d,t,os⟩:=by
 have hk:builtinKind "BaseException.__getattribute__" = some .slot:=by decide +kernel
 have hsplit:splitId "BaseException.__getattribute__" = some ("BaseException","__getattribute__"):=by decide +kernel
 have L1:=looks_mroIn (M:=M) Z S.mb;have ha:=F.args_bexc_ga (.ref x) nameV;simp only[checkBuiltinCall,hk,hsplit];refine ag ?_;unfold isInstance
 repeat (first|assumption|lk|wp_step)
theorem oj{tk:Tok}{Q:Fin->af->Prop}(Z:K.In h)(S:zD K C)(L0:Looks (aj prog w) h (typeOf (.ref x)) (.ref C))(hx:∃o,h.get? x=some o/\o.cls=.ref C)(hq:Q (.done (.ret (.ref C))) ⟨h,g,d,t,os⟩) :
  ai (aj prog w) A (Builtin.«object.__getattribute__» ⟨[.ref x,.str "__class__" tk],[]⟩) Q E ⟨h,g,d,t,os⟩:=by
 have hT5:(⟨h,g,d,t,os⟩:af).TypeIs (.builtin "object.__class__") "getset_descriptor":=F.typeOf_object_class;have L2:=looks_findIn (M:=aj prog w) Z S.gc;have f5:=F.typeOf_object_class;have f6:=F.slot_gs_get.lookup;have f7:=F.slot_gs_set.lookup
 repeat (any_goals (first|assumption|with_reducible refine L0.at ?_|with_reducible refine ag (L0.at ?_)|with_reducible refine L2.at ?_|with_reducible refine ag (L2.at ?_)|wp_step))
 refine vp Z S L0 hx ?_
 repeat (any_goals (first|assumption|wp_step))
theorem vB{tk:Tok}{Q:ae->af->Prop}(Z:K.In h)(S:zD K C)(L0:Looks (aj prog w) h (typeOf (.ref x)) (.ref C))(hx:∃o,h.get? x=some o/\o.cls=.ref C)(hq:Q (.ref C) ⟨h,g,d,t,os⟩) :
  ai (aj prog w) A (getAttrBy (.ref x) (.str "__class__" tk) false) Q E ⟨h,g,d,t,os⟩:=by
 have f3:=F.attr_ValueError.ga.bind (.ref x);have hx2:(ae.builtin "BaseException.__getattribute__" == ae.builtin "object.__getattribute__")=false:=by decide +kernel
 have hx1:(onTheHeap (aR C)&&ae.builtin "BaseException.__getattribute__" == ae.builtin "object.__getattribute__")=false:=by rw[hx2];rfl
 have L2:=looks_findIn (M:=aj prog w) Z S.ga;have L3:=looks_findIn (M:=aj prog w) Z S.gt
 repeat (any_goals (first|assumption|with_reducible refine L0.at ?_|with_reducible refine ag (L0.at ?_)|with_reducible refine L2.at ?_|with_reducible refine ag (L2.at ?_)|with_reducible refine L3.at ?_|with_reducible refine ag (L3.at ?_)|wp_step))
 refine codeAny_call_builtin F.attr_ValueError.ga.plain F.entry_bexc_ga (lB Z S L0 (oj Z S L0 hx ?_))
 repeat (any_goals (first|assumption|wp_step))
theorem v8{Q:Option ae->af->Prop}(Z:K.In h)(S:zD K C)(L0:Looks (aj prog w) h (typeOf (.ref x)) (.ref C))(hx:∃o,h.get? x=some o/\o.cls=.ref C)(hq:Q (some (.ref C)) ⟨h,g,d,t+1,os⟩) :
  ai (aj prog w) A (getAttr? (.ref x) "__class__") Q E ⟨h,g,d,t,os⟩:=by
 unfold getAttr? getAttrBy?
 repeat (any_goals (first|assumption|with_reducible apply vB Z S L0 hx|wp_step))
end
end L2
namespace L2
open PySem PySem.Spec PyProof.Rows
structure eC(prog:av)(w:au)(xs:Array ae)(i l:Addr)(P:Nat->Heap->Prop):Prop where
 fr:∀k h h',P k h->(∀o,h.get? i=some o->h'.get? i=some o)->(∀o,h.get? l=some o->h'.get? l=some o)->P k h'
 nx:∀{A:aw} (k:Nat) (x:ae) (s:af) (Q:ae->af->Prop) (E:ae->af->Prop),P k s.heap->xs[k]? = some x->(∀h',P (k+1) h'->Heap.SameBut i s.heap h'->Q x {s with heap:=h'})->ai (aj prog w) A (b8 (.ref i)) Q E s
 en:∀{A:aw} (k:Nat) (s:af) (Q:ae->af->Prop) (E:ae->af->Prop),A.handled=none->P k s.heap->xs[k]? = none ->
  (∀h' e,Heap.ExtBut i s.heap h'->(∃o,h'.get? e=some o/\o.cls=.type "StopIteration")->E (.ref e) {s with heap:=h'})->ai (aj prog w) A (b8 (.ref i)) Q E s
 at_:∀k h,P k h->∃o,h.get? i=some o/\∃vs,o.data=.fields vs
theorem wI{prog:av}{w:au}{xs:Array ae}{i l:Addr}:eC prog w xs i l (λk h=>h.IsListIter i l k/\h.IsList l xs) where
 fr:=λ_ _ _ ⟨a,b⟩ p q=>⟨a.at p,b.at q⟩
 nx:=λk x s Q E ⟨a,b⟩ hx hQ=>wpAny_nextOf_list_item a b hx λh' a' sb=>hQ h' ⟨a',b.at λo e=>(sb.2 l (λz=>by
  obtain⟨_,e1,e2,_⟩:=a;obtain⟨_,f1,f2,_⟩:=b;rw[z,e1]at f1;have e3:=bg f1;rw[<-e3,e2]at f2;exact absurd f2 (by decide))).trans e⟩ sb
 en:=λk s Q E hh ⟨a,b⟩ hx hE=>wpAny_nextOf_list_end hh a b hx hE
 at_:=λ_ _ ⟨⟨o,e,_,d⟩,_⟩=>⟨o,e,_,d⟩
section
variable{prog:av}{w:au}{A:aw}{E:ae->af->Prop}{s:af}
theorem AF{it l:Addr}{i:Nat}{items}{x:ae}{Q:ae->af->Prop}(hit:s.heap.IsTupleIter it l i)(hl:s.heap.IsTuple l items)(hx:items[i]? = some x)
  (hQ:∀h',h'.IsTupleIter it l (i+1)->Heap.SameBut it s.heap h'->Q x {s with heap:=h'}):ai (aj prog w) A (b8 (.ref it)) Q E s:=by
 obtain⟨oi,gi,ci,di⟩:=id hit;obtain⟨ol,gl,_,nl,dl⟩:=hl;unfold b8;refine ag (wpAny_callSpecial?_slot (name:=ah "__next__") hit.typeIs F.slot_tuple_iterator_next (cw F.slot_tuple_iterator_next hit.typeIs F.entry_tuple_iterator_next ?_ (F.args_tuple_iterator_next_1 _)));show ai (aj prog w) _ (field (.ref it) 0>>=_) _ _ s;refine ag (ba gi di (x:=.ref l) rfl ?_);show ai (aj prog w) _ (if (aR l==bf)=true then _ else _) _ _ s;rw[if_neg (show ¬ ((aR l==.none)=true)from bS)];show ai (aj prog w) _ (field (.ref it) 1>>=_) _ _ s;refine ag (ba gi di (x:=.int i 0) rfl ?_);show ai (aj prog w) _ (seqItems? (.ref l)>>=_) _ _ s;refine ag (wpAny_seqItems gl dl ?_);simp only[Int.toNat_natCast,hx];refine ag (wpAny_setField gi di (by simp) (ax ⟨x,rfl,ax (hQ _ ?_ (Heap.SameBut.update ..))⟩));exact⟨_,Heap.get?_update_self _ gi (Obj.isFreed_of_fields (Obj.data_mapFields di _)),(Obj.cls_mapFields ..).trans ci,by rw[Obj.data_mapFields di];simp[rawInt]⟩
theorem yi{it l:Addr}{i:Nat}{items}{Q:ae->af->Prop}(hh:A.handled=none)(hit:s.heap.IsTupleIter it l i)(hl:s.heap.IsTuple l items)(hx:items[i]? = none)
  (hE:∀h' e,Heap.ExtBut it s.heap h'->(∃o,h'.get? e=some o/\o.cls=.type "StopIteration")->E (.ref e) {s with heap:=h'}):ai (aj prog w) A (b8 (.ref it)) Q E s:=by
 obtain⟨oi,gi,ci,di⟩:=id hit;obtain⟨ol,gl,_,nl,dl⟩:=hl;unfold b8;refine ag (wpAny_callSpecial?_slot (name:=ah "__next__") hit.typeIs F.slot_tuple_iterator_next (cw F.slot_tuple_iterator_next hit.typeIs F.entry_tuple_iterator_next ?_ (F.args_tuple_iterator_next_1 _)));show ai (aj prog w) _ (field (.ref it) 0>>=_) _ _ s;refine ag (ba gi di (x:=.ref l) rfl ?_);show ai (aj prog w) _ (if (aR l==bf)=true then _ else _) _ _ s;rw[if_neg (show ¬ ((aR l==.none)=true)from bS)];show ai (aj prog w) _ (field (.ref it) 1>>=_) _ _ s;refine ag (ba gi di (x:=.int i 0) rfl ?_);show ai (aj prog w) _ (seqItems? (.ref l)>>=_) _ _ s;refine ag (wpAny_seqItems gl dl ?_);simp only[Int.toNat_natCast,hx];refine ag (wpAny_rule (ag (wpAny_setField gi di (by simp) ?_)));show ai (aj prog w) _ (newExc (.type "StopIteration") []>>=_) _ _ _;refine ag ?_;simp only[newExc,newTuple];refine ag (cm ?_ (by size_fits));refine ag (m:=firstArgMember _ _) (wpAny_of_eq (a:=bf) (by first|rfl|(simp only[firstArgMember];rfl)) ?_);refine cm ?_ (by size_fits);simp only[raiseNew];refine ag (wpAny_handled ?_)
 first|rw[show A.in1.handled=none from hh]|rw[hh]
 refine ag (ax (wpAny_throw ?_));exact hE _ _ (((Heap.SameBut.update ..).extBut.push _).push _) ⟨_,Heap.get?_push_size _ rfl,rfl⟩
end
theorem sX{prog:av}{w:au}{xs:Array ae}{i l:Addr}:eC prog w xs i l (λk h=>h.IsTupleIter i l k/\h.IsTuple l xs) where
 fr:=λ_ _ _ ⟨a,b⟩ p q=>⟨a.at p,let ⟨o,e,r⟩:=b;⟨o,q o e,r⟩⟩
 nx:=λk x s Q E ⟨a,b⟩ hx hQ=>AF a b hx λh' a' sb=>hQ h' ⟨a',b.extBut sb.extBut (λz=>by
  obtain⟨_,e1,e2,_⟩:=a;obtain⟨_,f1,f2,_⟩:=b;rw[z,e1]at f1;have e3:=bg f1;rw[<-e3,e2]at f2;exact absurd f2 (by decide))⟩ sb
 en:=λk s Q E hh ⟨a,b⟩ hx hE=>yi hh a b hx hE
 at_:=λ_ _ ⟨⟨o,e,_,d⟩,_⟩=>⟨o,e,_,d⟩
section
variable{prog:av}{w:au}{A:aw}{E:ae->af->Prop}{s:af}{z TI TO i1 i2 l1 l2:Addr}{k:Nat}{xs ys:Array ae}{P1 P2:Nat->Heap->Prop}
structure AS(z TI TO i1 i2 l1 l2:Addr):Prop where
 d:ZipApart z TI TO i1 i2 l1 l2
theorem xr{x y a b:ae}{Q:ae->af->Prop}(D:ZipApart z TI TO i1 i2 l1 l2)(S1:eC prog w xs i1 l1 P1)(S2:eC prog w ys i2 l2 P2)
  (hz:IsZip s.heap z TI TO .none) (hTI:IsPair s.heap TI (.ref i1) (.ref i2)) (hTO:IsPair s.heap TO a b) (h1:P1 k s.heap) (h2:P2 k s.heap) (hx:xs[k]? = some x) (hy:ys[k]? = some y)
  (hQ:∀h',IsZip h' z TI TO (rawInt s.heap.objs.size)->IsPair h' TO x y->P1 (k+1) h'->P2 (k+1) h'->IsPair h' s.heap.objs.size x y->h'.objs.size=s.heap.objs.size+1 ->
   (∀c o,c≠z->c≠TO->c≠i1->c≠i2->s.heap.get? c=some o->h'.get? c=some o)->Q (.ref s.heap.objs.size) {s with heap:=h'}) :
  ai (aj prog w) A (Builtin.«zip.__next__» ⟨[.ref z],[]⟩) (λfin s'=>∃v,fin=.done (.ret v)/\Q v s') E s:=by
 show ai (aj prog w) _ (field (.ref z) 2>>=_) _ _ _;refine ag (ba hz rfl (x:=.bool false) rfl ?_);show ai (aj prog w) _ (field (.ref z) 3>>=_) _ _ _;refine ag (ba hz rfl (x:=.ref TI) rfl ?_);refine ag (wpAny_seqItems hTI rfl ?_);show ai (aj prog w) _ (Builtin.SmallTypes.ownedTupleIsFree (.ref z)>>=_) _ _ _;refine ag ?_;unfold Builtin.SmallTypes.ownedTupleIsFree;refine ag (ba hz rfl (x:=.none) rfl (ax ?_));simp only[if_true];refine ag (wpAny_rule ?_);refine ag (ba hz rfl (x:=.ref TO) rfl ?_);refine ag (wpAny_setField_rec hz (by simp) λj1 zj1 sj1=>?_)
 replace zj1:IsZip j1 z TI TO .ellipsis:=zj1
 refine ag ?_;simp only[List.zipIdx_cons,List.zipIdx_nil,List.forIn_cons,List.forIn_nil];refine ag (ag (wpAny_onRaise ?_));show ai (aj prog w) _ (b8 (.ref i1)>>=_) _ _ _;refine ag (S1.nx k x _ _ _ (S1.fr k _ _ h1 (λo e=>sj1.extBut _ o D.i1z e) λo e=>sj1.extBut _ o D.l1z e) hx λj2 pj2 sj2=>ax ?_);have oj2:IsPair j2 TO a b:=sj2.extBut _ _ D.TOi1 (sj1.extBut _ _ D.TOz hTO);refine ag (wpAny_seqItems oj2 rfl ?_);refine ag (wpAny_updateSeq_pair oj2 λj3 oj3 sj3=>?_)
 replace oj3:IsPair j3 TO x b:=oj3
 refine ag (wpAny_letGo (ax ?_));refine ag (ag (wpAny_onRaise ?_));show ai (aj prog w) _ (b8 (.ref i2)>>=_) _ _ _;refine ag (S2.nx k y _ _ _ (S2.fr k _ _ h2 (λo e=>sj3.extBut _ o D.TOi2.symm (sj2.extBut _ o D.i12.symm (sj1.extBut _ o D.i2z e))) λo e=>sj3.extBut _ o D.l2TO (sj2.extBut _ o D.l2i1 (sj1.extBut _ o D.l2z e))) hy λj4 pj4 sj4=>ax ?_);have oj4:IsPair j4 TO x b:=sj4.extBut _ _ D.TOi2 oj3;refine ag (wpAny_seqItems oj4 rfl ?_);refine ag (wpAny_updateSeq_pair oj4 λj5 oj5 sj5=>?_)
 replace oj5:IsPair j5 TO x y:=oj5
 refine ag (wpAny_letGo (ax (ax ?_)));refine ag (wpAny_seqItems oj5 rfl ?_);refine ag (wpAny_newTuple ?_);have hsz:j5.objs.size=s.heap.objs.size:=by rw[sj5.1,sj4.1,sj3.1,sj2.1,sj1.1]
 have zj5:IsZip j5 z TI TO .ellipsis:=sj5.extBut _ _ D.TOz.symm (sj4.extBut _ _ D.i2z.symm (sj3.extBut _ _ D.TOz.symm (sj2.extBut _ _ D.i1z.symm zj1)));have kj5:∀c o,c≠z->c≠TO->c≠i1->c≠i2->s.heap.get? c=some o->j5.get? c=some o:=λc o c1 c2 c3 c4 e=>
  sj5.extBut _ _ c2 (sj4.extBut _ _ c4 (sj3.extBut _ _ c2 (sj2.extBut _ _ c3 (sj1.extBut _ _ c1 e))))
 have p15:P1 (k+1) j5:=S1.fr _ _ _ pj2 (λo e=>sj5.extBut _ o D.TOi1.symm (sj4.extBut _ o D.i12 (sj3.extBut _ o D.TOi1.symm e))) λo e=>sj5.extBut _ o D.l1TO (sj4.extBut _ o D.l1i2 (sj3.extBut _ o D.l1TO e))
 have p25:P2 (k+1) j5:=S2.fr _ _ _ pj4 (λo e=>sj5.extBut _ o D.TOi2.symm e) λo e=>sj5.extBut _ o D.l2TO e
 have hzlt:z<j5.objs.size:=aC zj5;show ai (aj prog w) _ (Builtin.SmallTypes.ownedTupleHandOut (.ref z) (.ref j5.objs.size)>>=_) _ _ _;refine ag ?_;unfold Builtin.SmallTypes.ownedTupleHandOut;have zj6:IsZip (j5.push {cls:=.type "tuple",data:=.seq #[x,y]}) z TI TO .ellipsis:=Heap.get?_push_of_some _ zj5;refine ag (wpAny_setField_rec zj6 (by simp) λj7 zj7 sj7=>?_)
 replace zj7:IsZip j7 z TI TO (rawInt j5.objs.size):=zj7
 refine wpAny_setField_rec zj7 (by simp) λj8 zj8 sj8=>?_
 replace zj8:IsZip j8 z TI TO (rawInt j5.objs.size):=zj8
 have up:∀c o,c≠z->j5.get? c=some o->j8.get? c=some o:=λc o c1 e=>sj8.extBut _ _ c1 (sj7.extBut _ _ c1 (Heap.get?_push_of_some _ e))
 have tj8:IsPair j8 j5.objs.size x y:=sj8.extBut _ _ (Nat.ne_of_gt hzlt) (sj7.extBut _ _ (Nat.ne_of_gt hzlt) (Heap.get?_push_size _ rfl));have hz8:j8.objs.size=j5.objs.size+1:=by rw[sj8.1,sj7.1,bU]
 rw[hsz]at zj8 tj8 hz8;refine ax ⟨_,rfl,?_⟩;show Q (.ref j5.objs.size) _;rw[hsz];exact hQ j8 zj8 (up _ _ D.TOz oj5) (S1.fr _ _ _ p15 (λo e=>up _ o D.i1z e) λo e=>up _ o D.l1z e) (S2.fr _ _ _ p25 (λo e=>up _ o D.i2z e) λo e=>up _ o D.l2z e) tj8 hz8 λc o c1 c2 c3 c4 e=>up c o c1 (kj5 c o c1 c2 c3 c4 e)
theorem o6{a b:ae}{Q:PySem.Fin->af->Prop}(hh:A.handled=none)(D:ZipApart z TI TO i1 i2 l1 l2)(S1:eC prog w xs i1 l1 P1)
  (hz:IsZip s.heap z TI TO .none) (hTI:IsPair s.heap TI (.ref i1) (.ref i2)) (hTO:IsPair s.heap TO a b) (h1:P1 k s.heap) (hx:xs[k]? = none)
  (hE:∀h' e,(∀c o,c≠z->c≠TO->c≠i1->c≠i2->s.heap.get? c=some o->h'.get? c=some o)->(∃o,h'.get? e=some o/\o.cls=.type "StopIteration")->E (.ref e) {s with heap:=h'}) :
  ai (aj prog w) A (Builtin.«zip.__next__» ⟨[.ref z],[]⟩) Q E s:=by
 show ai (aj prog w) _ (field (.ref z) 2>>=_) _ _ _;refine ag (ba hz rfl (x:=.bool false) rfl ?_);show ai (aj prog w) _ (field (.ref z) 3>>=_) _ _ _;refine ag (ba hz rfl (x:=.ref TI) rfl ?_);refine ag (wpAny_seqItems hTI rfl ?_);show ai (aj prog w) _ (Builtin.SmallTypes.ownedTupleIsFree (.ref z)>>=_) _ _ _;refine ag ?_;unfold Builtin.SmallTypes.ownedTupleIsFree;refine ag (ba hz rfl (x:=.none) rfl (ax ?_));simp only[if_true];refine ag (wpAny_rule ?_);refine ag (ba hz rfl (x:=.ref TO) rfl ?_);refine ag (wpAny_setField_rec hz (by simp) λj1 zj1 sj1=>?_)
 replace zj1:IsZip j1 z TI TO .ellipsis:=zj1
 refine ag ?_;simp only[List.zipIdx_cons,List.zipIdx_nil,List.forIn_cons,List.forIn_nil];refine ag (ag (wpAny_onRaise ?_));show ai (aj prog w) _ (b8 (.ref i1)>>=_) _ _ _;refine ag (S1.en k _ _ _ hh (S1.fr k _ _ h1 (λo e=>sj1.extBut _ o D.i1z e) λo e=>sj1.extBut _ o D.l1z e) hx λj2 e sj2 he=>?_);obtain⟨oe,hoe,hce⟩:=he;have zj2:IsZip j2 z TI TO .ellipsis:=sj2 _ _ D.i1z.symm zj1;have hez:e≠z:=λq=>by subst q;rw[zj2]at hoe;cases hoe;simp at hce
 refine wpAny_setField_rec zj2 (by simp) λj3 _ sj3=>hE j3 e (λc o c1 _ c3 _ q=>sj3.extBut _ _ c1 (sj2 _ _ c3 (sj1.extBut _ _ c1 q))) ⟨oe,sj3.extBut _ _ hez hoe,hce⟩
end
section
variable{X:Cx}{pins:List (Addr×Obj)}{σ:St}{H:Hp}{s:af}{h':Heap}{tk:Nat}
theorem Inv.turnNew{ch:List Addr}{p:Addr}{vs:List V}{its:List ae}(I:Inv X pins σ H s)(hf:∀b∈ch,cC X pins H b)(k:∀b o,b∉ch->s.heap.get? b=some o->h'.get? b=some o)
  (hp:s.heap.objs.size<=p) (ht:IsTup h' p its.toArray) (r:Vals vs its) (hz:vs.length<=aK):Inv X pins σ (upd H p (.tup vs)) {s with heap:=h',toks:=tk}:=by
 have hpn:H p=none:=I.hok.fresh hp;have nch:∀b u,H b=some u->b∉ch:=λb u e z=>by have:=(hf b z).1;rw[e]at this;cases this
 have np:∀b u,H b=some u->b≠p:=λb u e z=>by rw[z,hpn]at e;cases e
 refine I.step (g':=s.gens) (d':=s.drawn) (ch:=ch) (λb hb=>?_) (λb o _ _ hc e _=>k b o hc e) (λb o _ _ hc e _=>⟨o.slots,k b o hc e⟩) (λb o hc e n=>?_) (λb o hc e=>⟨o,k b o hc e⟩)
  (λb xs e=>by rw[qg (np b _ e)];exact e) (λb o u e=>by rw[qg (np b _ e)];exact e) (λb ps e=>⟨#[],by rw[qg (np b _ e),e];simp⟩) (λm hm=>?_) (λb u e=>?_) I.bare
 ·obtain⟨f0,f1,f2,f3,f4,f5⟩:=hf b hb;exact⟨f3,f1,f4,f5⟩
 ·rw[qg (aS (aY (aC e) hp))];exact n
 ·obtain⟨o,es,ep,ho,r⟩:=hm;exact⟨o,es,ep,k _ o (λz=>(hf _ z).2.1 rfl) ho,r⟩
 ·by_cases hb:b=p
  ·subst hb;rw[zp]at e;cases e;exact⟨hz,its,r,ht⟩
  ·rw[qg hb]at e;refine(I.hok b u e).stay (λc v hc q=>k c v ?_ q) (λc q=>by rw[qg (np c _ q)];exact q) λc xs q=>by rw[qg (np c _ q)];exact q
   rcases hc with z|z
   ·rw[z];exact nch b u e
   ·exact nch c _ z
theorem Inv.turnAll{ch:List Addr}(I:Inv X pins σ H s)(hf:∀b∈ch,cC X pins H b)(k:∀b o,b∉ch->s.heap.get? b=some o->h'.get? b=some o):Inv X pins σ H {s with heap:=h',toks:=tk}:=by
 have nch:∀b u,H b=some u->b∉ch:=λb u e z=>by have:=(hf b z).1;rw[e]at this;cases this
 refine I.step (g':=s.gens) (d':=s.drawn) (ch:=ch) (λb hb=>?_) (λb o _ _ hc e _=>k b o hc e) (λb o _ _ hc e _=>⟨o.slots,k b o hc e⟩) (λb o hc e n=>n) (λb o hc e=>⟨o,k b o hc e⟩)
  (λb xs e=>e) (λb o u e=>e) (λb ps e=>⟨#[],by rw[e];simp⟩) (λm hm=>?_) (λb u e=>?_) I.bare
 ·obtain⟨f0,f1,f2,f3,f4,f5⟩:=hf b hb;exact⟨f3,f1,f4,f5⟩
 ·obtain⟨o,es,ep,ho,r⟩:=hm;exact⟨o,es,ep,k _ o (λz=>(hf _ z).2.1 rfl) ho,r⟩
 ·refine(I.hok b u e).stay (λc v hc q=>k c v ?_ q) (λc q=>q) λc xs q=>q
  rcases hc with z|z
  ·rw[z];exact nch b u e
  ·exact nch c _ z
end
noncomputable def Sq2(K:aq)(tup:Bool)(H:Hp)(a:Addr)(xs:List V):Prop:=if tup=true then SqT K H a xs else SqL K H a xs
noncomputable def Itz(K:aq)(tup:Bool)(l1 l2:Addr):It:=
 ⟨λi H=>∃xs ys x y,Sq2 K tup H l1 xs/\Sq2 K tup H l2 ys/\xs[i]? = some x/\ys[i]? = some y,
  λi H v H'=>∃p x y,H p=none/\v=.ref p/\H'=upd H p (.tup [x,y])/\(∀xs,Sq2 K tup H l1 xs->xs[i]? = some x)/\∀ys,Sq2 K tup H l2 ys->ys[i]? = some y,
  λi H=>∃xs ys,Sq2 K tup H l1 xs/\Sq2 K tup H l2 ys/\xs.length<=i⟩
noncomputable def cX(tup:Bool)(h:Heap)(i l:Addr)(k:Nat):Prop:=if tup=true then h.IsTupleIter i l k else h.IsListIter i l k
noncomputable def nq(tup:Bool)(h:Heap)(l:Addr)(xs:Array ae):Prop:=if tup=true then h.IsTuple l xs else h.IsList l xs
theorem i7{prog:av}{w:au}{xs:Array ae}{i l:Addr}{tup:Bool}:eC prog w xs i l (λk h=>cX tup h i l k/\nq tup h l xs):=by
 cases tup with
 |true=>exact sX
 |false=>exact wI
theorem cX.rec{tup:Bool}{h:Heap}{i l:Addr}{k:Nat}(x:cX tup h i l k):∃o vs,h.get? i=some o/\o.data=.fields vs:=by
 cases tup with
 |true=>obtain⟨o,e,_,d⟩:=(show h.IsTupleIter i l k from x);exact⟨o,_,e,d⟩
 |false=>obtain⟨o,e,_,d⟩:=(show h.IsListIter i l k from x);exact⟨o,_,e,d⟩
theorem cX.kept{tup:Bool}{h h':Heap}{i l:Addr}{k:Nat}(x:cX tup h i l k)(p:∀o,h.get? i=some o->h'.get? i=some o):cX tup h' i l k:=by
 cases tup with
 |true=>exact(show h.IsTupleIter i l k from x).at p
 |false=>exact(show h.IsListIter i l k from x).at p
theorem Inv.sq2{X:Cx}{pins:List (Addr×Obj)}{σ:St}{H:Hp}{s:af}{tup:Bool}{a:Addr}{xs:List V}(I:Inv X pins σ H s)(h:Sq2 X.K tup H a xs):∃its:List ae,Vals xs its/\nq tup s.heap a its.toArray/\xs.length<=aK/\∃o ns n,s.heap.get? a=some o/\o.data=.seq ns n:=by
 cases tup with
 |true=>
  obtain⟨its,r,p,z⟩:=I.tuple h;obtain⟨o,e,c,n,d⟩:=id p;exact⟨its,r,p,z,o,_,n,e,d⟩
 |false=>
  obtain⟨its,r,p,z⟩:=I.list h;obtain⟨o,n,e,c,c',d⟩:=id p;exact⟨its,r,p.isList,z,o,_,n,e,d⟩
theorem Inv.sq2_inj{X:Cx}{pins:List (Addr×Obj)}{σ:St}{H:Hp}{s:af}{tup:Bool}{a:Addr}{xs ys:List V}(I:Inv X pins σ H s)(h:Sq2 X.K tup H a xs)(h':Sq2 X.K tup H a ys):xs=ys:=by
 cases tup with
 |true=>exact I.tuple_inj h h'
 |false=>exact I.list_inj h h'
theorem sW{P:av}{w:au}{K:aq}{es:List Expr}{ek:Nat}{epos:Pos}{tup:Bool}{z TI TO i1 i2 l1 l2:Addr}(n1:TI≠z)(n2:TO≠z)(n3:i1≠z)(n4:i2≠z)(n5:TI≠TO)(n6:TI≠i1)(n7:TI≠i2)(n8:TO≠i1)(n9:TO≠i2)(n10:i1≠i2)
  (ml:∀b∈[z,TI,TO,i1,i2],l1≠b/\l2≠b):Turn P w K (.Tuple es ek epos) (Itz K tup l1 l2) [z,TI,TO,i1,i2] z (λi h=>IsZip h z TI TO .none/\IsPair h TI (.ref i1) (.ref i2)/\(∃a b,IsPair h TO a b)/\cX tup h i1 l1 i/\cX tup h i2 l2 i) where
 mem:=by simp
 obj:=λi h st b hb=>by
  obtain⟨hz,hTI,⟨a,c,hTO⟩,h1,h2⟩:=st;obtain⟨o1,v1,e1,d1⟩:=h1.rec;obtain⟨o2,v2,e2,d2⟩:=h2.rec;have hb':b=z\/b=TI\/b=TO\/b=i1\/b=i2:=by simpa using hb
  rcases hb' with q|q|q|q|q
  ·subst q;exact⟨_,hz,λv q=>by cases q⟩
  ·subst q;exact⟨_,hTI,λv q=>by cases q⟩
  ·subst q;exact⟨_,hTO,λv q=>by cases q⟩
  ·subst q;exact⟨o1,e1,λv q=>by rw[d1]at q;cases q⟩
  ·subst q;exact⟨o2,e2,λv q=>by rw[d2]at q;cases q⟩
 keep:=λi h h' st k=>by
  obtain⟨hz,hTI,⟨a,c,hTO⟩,h1,h2⟩:=st;exact⟨k z (by simp) _ hz,k TI (by simp) _ hTI,⟨a,c,k TO (by simp) _ hTO⟩,h1.kept λo e=>k i1 (by simp) o e,h2.kept λo e=>k i2 (by simp) o e⟩
 item:=by
  intro X hP hw hK hc i pins s σ H E I hf st hg;subst hP hw hK;obtain⟨hz,hTI,⟨a,c,hTO⟩,h1,h2⟩:=st;obtain⟨xs,ys,x,y,q1,q2,hx,hy⟩:=hg;obtain⟨its1,r1,p1,z1,_⟩:=I.sq2 q1;obtain⟨its2,r2,p2,z2,_⟩:=I.sq2 q2;obtain⟨u1,hu1,ru1⟩:=r1.get hx;obtain⟨u2,hu2,ru2⟩:=r2.get hy;have D:ZipApart z TI TO i1 i2 l1 l2:=⟨n1,n2,n3,n4,n5,n6,n7,n8,n9,n10,(ml z (by simp)).1,(ml TO (by simp)).1,(ml i1 (by simp)).1,(ml i2 (by simp)).1,(ml z (by simp)).2,(ml TO (by simp)).2,(ml i1 (by simp)).2,(ml i2 (by simp)).2⟩
  have hT:s.TypeIs (.ref z) "zip":=⟨_,hz,rfl⟩
  unfold pyNext;refine ag (wpAny_attempt (wpAny_callSpecial?_slot (name:=ah "__next__") hT F.slot_zip_next (cw F.slot_zip_next hT F.entry_zip_next
   (xr (xs:=its1.toArray) (ys:=its2.toArray) (k:=i) D (i7 (tup:=tup)) (i7 (tup:=tup)) hz hTI hTO ⟨h1,p1⟩ ⟨h2,p2⟩ (by simpa using hu1) (by simpa using hu2) λh' a1 a2 a3 a4 a5 a6 hk=>ax ?_) (F.args_zip_next_1 _))))
  have hkc:∀b o,b∉[z,TI,TO,i1,i2]->s.heap.get? b=some o->h'.get? b=some o:=λb o hb e=>hk b o (λq=>hb (by simp[q])) (λq=>hb (by simp[q])) (λq=>hb (by simp[q])) (λq=>hb (by simp[q])) e
  have I1:Inv X pins σ (upd H s.heap.objs.size (.tup [x,y])) {s with heap:=h'}:=I.turnNew (tk:=s.toks) (its:=[u1,u2]) hf hkc (aF _) ⟨_,a5,rfl,_,rfl⟩ (.cons ru1 (.cons ru2 .nil)) (by show 2<=aK;decide);have hpn:H s.heap.objs.size=none:=I.hok.fresh (aF _);have hfp:∀b∈[z,TI,TO,i1,i2],b≠s.heap.objs.size:=λb hb q=>by
   have hb':b=z\/b=TI\/b=TO\/b=i1\/b=i2:=by simpa using hb
   obtain⟨o1,v1,e1,d1⟩:=h1.rec;obtain⟨o2,v2,e2,d2⟩:=h2.rec;have:b<s.heap.objs.size:=by
    rcases hb' with q|q|q|q|q
    ·subst q;exact aC hz
    ·subst q;exact aC hTI
    ·subst q;exact aC hTO
    ·subst q;exact aC e1
    ·subst q;exact aC e2
   rw[q]at this;exact bh _ this
  have hnone:∀b∈[z,TI,TO,i1,i2],(upd H s.heap.objs.size (.tup [x,y])) b=none:=λb hb=>by rw[qg (hfp b hb)];exact(hf b hb).1
  refine⟨_,rfl,?_⟩;refine wpAny_letOwnedTupleGo_zip (s:={s with heap:=h'}) a1 λh2' hz' hs'=>?_
  obtain⟨f0,f1,f2,f3,f4,f5⟩:=hf z (by simp);refine⟨.ref s.heap.objs.size,_,I1.turned (t':=s.toks) (it:=z) (λb o hb e=>(hs'.2 b hb).trans e) (hnone z (by simp)) f1 f3 f4 f5,rfl,⟨_,x,y,hpn,rfl,rfl,λzs hq=>by rw[I.sq2_inj hq q1];exact hx,λzs hq=>by rw[I.sq2_inj hq q2];exact hy⟩,?_,hnone⟩;have up:∀b o,b≠z->h'.get? b=some o->h2'.get? b=some o:=λb o hb e=>(hs'.2 b hb).trans e
  exact⟨hz',up _ _ n1 (hk _ _ n1 n5 n6 n7 hTI),⟨_,_,up _ _ n2 a2⟩,a3.1.kept λo e=>up _ o n3 e,a4.1.kept λo e=>up _ o n4 e⟩
 done:=by
  intro X hP hw hK hc i pins s σ H E I hf st hg;subst hP hw hK;obtain⟨hz,hTI,⟨a,c,hTO⟩,h1,h2⟩:=st;obtain⟨xs,ys,q1,q2,hx⟩:=hg;obtain⟨its1,r1,p1,z1,_⟩:=I.sq2 q1;have D:ZipApart z TI TO i1 i2 l1 l2:=⟨n1,n2,n3,n4,n5,n6,n7,n8,n9,n10,(ml z (by simp)).1,(ml TO (by simp)).1,(ml i1 (by simp)).1,(ml i2 (by simp)).1,(ml z (by simp)).2,(ml TO (by simp)).2,(ml i1 (by simp)).2,(ml i2 (by simp)).2⟩
  have hT:s.TypeIs (.ref z) "zip":=⟨_,hz,rfl⟩
  have hl:=r1.length;unfold pyNext;refine ag (wpAny_attempt (wpAny_callSpecial?_slot (name:=ah "__next__") hT F.slot_zip_next (cw F.slot_zip_next hT F.entry_zip_next
   (o6 (xs:=its1.toArray) (k:=i) (I.ok.hd hc) D (i7 (tup:=tup)) hz hTI hTO ⟨h1,p1⟩ (by simp;lia) λh' e hk he=>?_) (F.args_zip_next_1 _))))
  obtain⟨o,ho,hcl⟩:=he;refine ag (wpAny_isInstance (T:="StopIteration") (b:=true) ⟨o,ho,hcl⟩ isSubtype_stop ?_);exact ax ⟨rfl,I.turnAll (tk:=s.toks) hf λb o hb e=>hk b o (λq=>hb (by simp[q])) (λq=>hb (by simp[q])) (λq=>hb (by simp[q])) (λq=>hb (by simp[q])) e⟩
 self:=λ_ _ _ _ _ st h=>wpAny_pyIter_zip st.1 h
abbrev zj1(h:Heap)(l1:Addr):Heap:=h.push {cls:=.type "tuple_iterator",data:=.fields #[.ref l1,.int 0 0]}
abbrev zj2(h:Heap)(l1 l2:Addr):Heap:=(zj1 h l1).push {cls:=.type "tuple_iterator",data:=.fields #[.ref l2,.int 0 0]}
abbrev zj3(h:Heap)(l1 l2:Addr):Heap:=(zj2 h l1 l2).push {cls:=.type "tuple",data:=.seq #[.ref h.objs.size,.ref (zj1 h l1).objs.size]}
abbrev zj4(h:Heap)(l1 l2:Addr):Heap:=(zj3 h l1 l2).push {cls:=.type "tuple",data:=.seq #[.none,.none]}
abbrev zj5(h:Heap)(l1 l2:Addr):Heap:=(zj4 h l1 l2).push {cls:=.type "zip",data:=.fields #[.none,.bool false,.bool false,.ref (zj2 h l1 l2).objs.size,.ref (zj3 h l1 l2).objs.size]}
theorem yR(l1 l2:Addr)(xs ys:Array ae) :
  Meets (Builtin.«zip.__new__» ⟨[.type "zip",.ref l1,.ref l2],[]⟩) (λ_ R s=>s.heap.IsTuple l1 xs/\s.heap.IsTuple l2 ys/\R (.ok (.ret (.ref (zj4 s.heap l1 l2).objs.size))) {s with heap:=zj5 s.heap l1 l2}):=
 .of_wp λprog w A R s h=>by
  obtain⟨hp,g,d,tk,os⟩:=s;obtain⟨hl1,hl2,h⟩:=h;have hsub:=sub_zip;have hL1:Heap.IsTuple (af.heap ⟨hp,g,d,tk,os⟩) l1 xs:=hl1;have hL2:Heap.IsTuple (af.heap ⟨hp.push {cls:=.type "tuple_iterator",data:=.fields #[.ref l1,.int 0 0]},g,d,tk,os⟩) l2 ys:=let ⟨o,e,r⟩:=hl2;⟨o,Heap.get?_push_of_some _ e,r⟩
  wp_walk using wpAny_pyIter_tuple hL1,wpAny_pyIter_tuple hL2
  exact⟨_,rfl,h⟩
section
variable{prog:av}{w:au}{A:aw}{E:ae->af->Prop}{s:af}
theorem xq{l1 l2:Addr}{xs ys:Array ae}{Q:ae->af->Prop}(hl1:s.heap.IsTuple l1 xs)(hl2:s.heap.IsTuple l2 ys)
  (h:∀h',IsZip h' (s.heap.objs.size+4) (s.heap.objs.size+2) (s.heap.objs.size+3) .none->IsPair h' (s.heap.objs.size+2) (.ref s.heap.objs.size) (.ref (s.heap.objs.size+1)) ->
   IsPair h' (s.heap.objs.size+3) .none .none->h'.IsTupleIter s.heap.objs.size l1 0->h'.IsTupleIter (s.heap.objs.size+1) l2 0->h'.objs.size=s.heap.objs.size+5 ->
   (∀c o,s.heap.get? c=some o->h'.get? c=some o)->Q (.ref (s.heap.objs.size+4)) {s with heap:=h'}):ai (aj prog w) A (call (.type "zip") [.ref l1,.ref l2]) Q E s:=by
 refine callType_new F.called_zip (by decide) (F.typeCall_zip_2 _ _) (F.newCall_zip_2 _ _) (λobj=>F.args_object_init_3 obj _ _) F.entry_zip_new (yR l1 l2 xs ys) ⟨hl1,hl2,?_⟩;have z1:(zj1 s.heap l1).objs.size=s.heap.objs.size+1:=bU ..;have z2:(zj2 s.heap l1 l2).objs.size=s.heap.objs.size+2:=by rw[bU,z1]
 have z3:(zj3 s.heap l1 l2).objs.size=s.heap.objs.size+3:=by rw[bU,z2]
 have z4:(zj4 s.heap l1 l2).objs.size=s.heap.objs.size+4:=by rw[bU,z3]
 have z5:(zj5 s.heap l1 l2).objs.size=s.heap.objs.size+5:=by rw[bU,z4]
 have g5:(zj5 s.heap l1 l2).get? (zj4 s.heap l1 l2).objs.size=some _:=Heap.get?_push_size _ rfl;have g4:(zj5 s.heap l1 l2).get? (zj3 s.heap l1 l2).objs.size=some _:=Heap.get?_push_of_some _ (Heap.get?_push_size _ rfl);have g3:(zj5 s.heap l1 l2).get? (zj2 s.heap l1 l2).objs.size=some _:=Heap.get?_push_of_some _ (Heap.get?_push_of_some _ (Heap.get?_push_size _ rfl));have g2:(zj5 s.heap l1 l2).get? (zj1 s.heap l1).objs.size=some _:=Heap.get?_push_of_some _ (Heap.get?_push_of_some _ (Heap.get?_push_of_some _ (Heap.get?_push_size _ rfl)));have g1:(zj5 s.heap l1 l2).get? s.heap.objs.size=some _:=Heap.get?_push_of_some _ (Heap.get?_push_of_some _ (Heap.get?_push_of_some _ (Heap.get?_push_of_some _ (Heap.get?_push_size _ rfl))));show _/\_;rw[z2,z3,z4]at g5;rw[z1,z2]at g3;rw[z3]at g4;rw[z1]at g2;rw[z4];exact⟨⟨_,g5,rfl⟩,h _ g5 g3 g4 ⟨_,g1,rfl,rfl⟩ ⟨_,g2,rfl,rfl⟩ z5 λc o x=>Heap.get?_push_of_some _ (Heap.get?_push_of_some _ (Heap.get?_push_of_some _ (Heap.get?_push_of_some _ (Heap.get?_push_of_some _ x))))⟩
end
noncomputable def p8(K:aq)(ta:TA):TI:=λσ H R=>ta σ H λvs H1=>∃(tup:Bool) (l1 l2:Addr),vs=[.ref l1,.ref l2]/\(∃xs,Sq2 K tup H1 l1 xs)/\(∃ys,Sq2 K tup H1 l2 ys)/\R (Itz K tup l1 l2) H1
theorem An{X:Cx}{es:List Expr}{ek:Nat}{epos p pos:Pos}{a b:Expr}{ta:TA}(hg:Gl X "zip")(hm:X.mg "zip" = none)(hv:bx "zip" = some (.type "zip"))(ha:PA X [a,b] ta)
  (hs:aH [a,b] X.env=[(false,eval a X.env),(false,eval b X.env)]:=by rfl) (hs2:aH [b] X.env=[(false,eval b X.env)]:=by rfl):PI X (.Tuple es ek epos) (.Call (.Name "zip" p) [a,b] [] pos) (p8 X.K ta):=by
 intro pins s σ H R I h;refine Call_ (ez I hg hm hv (dC (thn (ha pos pins s σ H _ I h) λus s1 ⟨vs,H1,I1,r1,q1⟩=>?_) (by rw[hs,hs2]) (by rw[hs2];rfl)));obtain⟨tup,l1,l2,e,⟨xs,q2⟩,⟨ys,q3⟩,q⟩:=q1;subst e;cases r1 with
 |cons r rr=>
  cases rr with
  |cons r' rr=>
   cases rr;cases r;cases r';obtain⟨its1,v1,p1,_,o1,ns1,m1,e1,d1⟩:=I1.sq2 q2;obtain⟨its2,v2,p2,_,o2,ns2,m2,e2,d2⟩:=I1.sq2 q3;have lt1:l1<s1.heap.objs.size:=aC e1;have lt2:l2<s1.heap.objs.size:=aC e2;have above:∀b:Addr,b∈[s1.heap.objs.size+4,s1.heap.objs.size+2,s1.heap.objs.size+3,s1.heap.objs.size,s1.heap.objs.size+1]->s1.heap.objs.size<=b:=λb hb=>by
    have hb':b=s1.heap.objs.size+4\/b=s1.heap.objs.size+2\/b=s1.heap.objs.size+3\/b=s1.heap.objs.size\/b=s1.heap.objs.size+1:=by simpa using hb
    rcases hb' with q|q|q|q|q
    ·rw[q];exact Nat.le_add_right _ _
    ·rw[q];exact Nat.le_add_right _ _
    ·rw[q];exact Nat.le_add_right _ _
    ·rw[q];exact aF _
    ·rw[q];exact Nat.le_add_right _ _
   have fin:∀h',IsZip h' (s1.heap.objs.size+4) (s1.heap.objs.size+2) (s1.heap.objs.size+3) .none->IsPair h' (s1.heap.objs.size+2) (.ref s1.heap.objs.size) (.ref (s1.heap.objs.size+1)) ->
     IsPair h' (s1.heap.objs.size+3) .none .none->cX tup h' s1.heap.objs.size l1 0->cX tup h' (s1.heap.objs.size+1) l2 0->(∀c o,s1.heap.get? c=some o->h'.get? c=some o) ->
     ai (aj X.prog X.w) X.A (pyIter (.ref (s1.heap.objs.size+4))) (PIE X pins σ (.Tuple es ek epos) R) X.xe {s1 with heap:=h'}:=λh' a1 a2 a3 a4 a5 k=>by
    have I2:Inv X pins σ H1 {s1 with heap:=h'}:=I1.kept (t':=s1.toks) k;refine wpAny_pyIter_zip a1 ?_;refine⟨_,_,_,_,H1,rfl,I2,sW (P:=X.prog) (w:=X.w) (K:=X.K) (z:=s1.heap.objs.size+4) (TI:=s1.heap.objs.size+2) (TO:=s1.heap.objs.size+3) (i1:=s1.heap.objs.size) (i2:=s1.heap.objs.size+1) (l1:=l1) (l2:=l2) (tup:=tup) (show (s1.heap.objs.size+2:Nat)≠s1.heap.objs.size+4 by lia) (show (s1.heap.objs.size+3:Nat)≠s1.heap.objs.size+4 by lia) (show (s1.heap.objs.size:Nat)≠s1.heap.objs.size+4 by lia) (show (s1.heap.objs.size+1:Nat)≠s1.heap.objs.size+4 by lia) (show (s1.heap.objs.size+2:Nat)≠s1.heap.objs.size+3 by lia) (show (s1.heap.objs.size+2:Nat)≠s1.heap.objs.size by lia) (show (s1.heap.objs.size+2:Nat)≠s1.heap.objs.size+1 by lia) (show (s1.heap.objs.size+3:Nat)≠s1.heap.objs.size by lia) (show (s1.heap.objs.size+3:Nat)≠s1.heap.objs.size+1 by lia) (show (s1.heap.objs.size:Nat)≠s1.heap.objs.size+1 by lia) (λb hb=>?_),⟨a1,a2,⟨_,_,a3⟩,a4,a5⟩,λb hb=>?_,q⟩
    ·have:=above b hb;exact⟨aS (aY lt1 this),aS (aY lt2 this)⟩
    ·have:=above b hb;exact I1.fpOk this (I1.hok.fresh this)
   cases tup with
   |true=>exact xq p1 p2 λh' a1 a2 a3 a4 a5 _ k=>fin h' a1 a2 a3 a4 a5 k
   |false=>exact call_zip_2 p1 p2 λh' a1 a2 a3 a4 a5 _ k=>fin h' a1 a2 a3 a4 a5 k
theorem wQ{K:aq}{x C:Addr}(S:zD K C):PySem.W.KitX K (.ref x) (.ref C) (λh=>∃o,h.get? x=some o/\o.cls=.ref C) where
 ty:=λM h _ ⟨o,e,c⟩=>c▸(PySem.W.Looks.ld e).andThen .now
 it:=λ_ _ Z _=>by
  obtain⟨c,dd,cd,sl,e⟩:=S.cl;intro A' Q' E' s' k q;unfold isType loadHead;exact ag (wpAny_loadPart (k _ _ (Z _ _ e)) (ax q))
 ne:=λh tp dd its n sl Z htp=>by
  obtain⟨c,dd',cd,sl',e⟩:=S.cl;refine Bool.eq_false_iff.mpr λq=>?_
  have e1:C=tp:=aR.inj (beq_iff_eq.mp q);subst e1;have z:=(Z _ _ e).symm.trans htp;cases z
 ca:=λ{prog w A E Q s} Z ⟨o,e,c⟩ k=>by
  obtain⟨hh,g,d,t,os⟩:=s;exact v8 Z S (c▸(PySem.W.Looks.ld e).andThen .now) ⟨o,e,c⟩ k
noncomputable def jt:V->Option ae
 | .ty n=>some (.type n)
 | .ref a=>some (.ref a)
 |_=>none
noncomputable def TyX(K:aq)(H:Hp)(x:V)(t:ae):Prop:=cF K H x t\/∃a C dx,x=.ref a/\t=.ref C/\H a=some (dJ a (.ref C) dx)/\zD K C
theorem pe{X:Cx}:zg X (.builtin "isinstance") (λxs H Q=>∃x c cv t b,xs=[x,c]/\jt c=some cv/\TyX X.K H x t/\a_ X.K t cv=some b/\Q (.bl b) H):=by
 intro pins s σ H xs us Q I r h;obtain⟨x,c,cv,t,b,rfl,hc,ty,hk,q⟩:=h;obtain⟨u,cu,rfl,rx,rc⟩:=r.two;have e:cu=cv:=by
  cases c with
  |ty n=>cases hc;exact rc
  |ref a=>cases hc;exact rc
  |_=>cases hc
 subst e;rcases ty with ty|⟨a,C,dx,rfl,rfl,ha,S⟩
 ·exact fh I rx ty hk λtk=>⟨.bl b,H,I.tok tk,rfl,q⟩
 ·cases rx;obtain⟨⟨o,vs,e1,e2,e3⟩,_⟩:=(show zy X.prog X.w H s.heap a (dJ a (.ref C) dx)from I.hok a _ ha)
  exact bC (wQ S) I.kIn ⟨o,e1,e2⟩ hk (λz=>nomatch z) λtk=>⟨.bl b,H,I.tok tk,rfl,q⟩
theorem u_{K:aq}{T:String}:a_ K (.type T) (.type T)=some true:=by unfold a_;rw[if_pos (by simp)]
theorem rO{K:aq}{a T:String}{b:Bool}(hne:(ae.type a==ae.type T)=false)(hm:PySem.W.kitMeta T=true)(hf:(fastBuiltinMro a).map (·.contains (.type T))=some b):a_ K (.type a) (.type T)=some b:=by
 unfold a_ PySem.W.kitCls ay;rw[if_neg (by rw[hne];exact bS)];dsimp only;rw[if_pos hm];exact hf
noncomputable def ey(a T:String):Bool:=a==T||(a == "bool" && T == "int")
theorem sA{K:aq}{a T:String}(ha:a∈["NoneType","bool","int","str","list","tuple","dict"])(hT:T∈["int","bool","str","list","tuple"]):a_ K (.type a) (.type T)=some (ey a T):=by
 simp only[aG,br,or_false]at ha hT;rcases ha with rfl|rfl|rfl|rfl|rfl|rfl|rfl<;>rcases hT with rfl|rfl|rfl|rfl|rfl<;>first|exact u_|exact rO (by decide +kernel) (by decide +kernel) (by decide +kernel)
noncomputable def qh{α:Type}(lt:Nat->Nat->Bool):PySem.W.KasT α->α
 | .ret a=>a
 | .ask i j k=>qh lt (k (lt i j))
noncomputable def bE{α:Type}(n:Nat)(r:α->Prop):PySem.W.KasT α->Prop
 | .ret a=>r a
 | .ask i j k=>i<n/\j<n/\∀b,bE n r (k b)
theorem bE.bind{α β:Type}{n:Nat}{r:α->Prop}{r':β->Prop}{f:α->PySem.W.KasT β}(hf:∀a,r a->bE n r' (f a)):∀(t:PySem.W.KasT α),bE n r t->bE n r' (t.bind f)
 | .ret a,h=>hf a h
 | .ask _ _ k,⟨h1,h2,h3⟩=>⟨h1,h2,λb=>bE.bind hf (k b) (h3 b)⟩
theorem mJ{α:Type}{n:Nat}{r:α->Prop}{lt:Nat->Nat->Bool}{cmp:Nat->Nat->(Bool->af->Prop)->af->Prop}{s:af}(h:∀i j C,i<n->j<n->C (lt i j) s->cmp i j C s){Q:α->af->Prop}:∀(t:PySem.W.KasT α),bE n r t->Q (qh lt t) s->t.kasWp cmp Q s
 | .ret _,_,q=>q
 | .ask i j k,⟨h1,h2,h3⟩,q=>h i j _ h1 h2 (mJ h (k (lt i j)) (h3 _) q)
noncomputable def Bel(n:Nat)(p:Array Nat):Prop:=p.size=n/\∀x∈p,x<n
theorem Bel.get{n:Nat}{p:Array Nat}(h:Bel n p)(hn:0<n)(i:Nat):p.getD i 0<n:=by
 unfold Array.getD;split
 ·rename_i hi;exact h.2 _ (Array.getElem_mem hi)
 ·exact hn
theorem Bel.swap{n:Nat}{p:Array Nat}(h:Bel n p)(i j:Nat):Bel n (p.swapIfInBounds i j):=by
 refine⟨by rw[Array.size_swapIfInBounds];exact h.1,λx hx=>?_⟩;unfold Array.swapIfInBounds at hx;split at hx
 ·split at hx
  ·rename_i h1 h2
   exact h.2 x ((Array.swap_perm h1 h2).mem_iff.mp hx)
  ·exact h.2 x hx
 ·exact h.2 x hx
theorem Bel.fold{n:Nat}(u v:Nat->Nat):∀(l:List Nat) {p:Array Nat},Bel n p->Bel n (l.foldl (λa k=>a.swapIfInBounds (u k) (v k)) p)
 | [],_,h=>h
 |k::r,p,h=>Bel.fold u v r (h.swap (u k) (v k))
theorem Bel.rev{n:Nat}{p:Array Nat}(h:Bel n p)(i j:Nat):Bel n (bc p i j):=by
 unfold bc mirror
 first|exact Bel.fold _ _ _ h|(simp only[];exact Bel.fold _ _ _ h)
theorem Bel.bub{n:Nat}{p:Array Nat}(h:Bel n p)(i j:Nat):Bel n (bubble p i j):=by
 unfold bubble
 first|exact Bel.fold _ _ _ h|(simp only[];exact Bel.fold _ _ _ h)
theorem h9{n:Nat}(hn:0<n){p:Array Nat}(h:Bel n p):∀f m,bE n (λ_=>True) (PySem.W.kas_asc p f m)
 | 0,_=>trivial
 |f+1,m=>⟨h.get hn _,h.get hn _,λb=>by cases b with
  |true=>exact trivial
  |false=>exact h9 hn h f (m+1)⟩
theorem g_{n:Nat}(hn:0<n):∀f {p:Array Nat} m q,Bel n p->bE n (λr=>Bel n r.1) (a9 f p m q)
 | 0,_,_,_,h=>h
 |f+1,p,m,q,h=>⟨h.get hn _,h.get hn _,λb=>by cases b with
  |true=>
   show bE n _ (if q>0 then _ else _);split
   ·exact g_ hn f _ _ (h.rev _ _)
   ·exact g_ hn f _ _ h
  |false=>exact⟨h.get hn _,h.get hn _,λd=>by cases d with
   |true=>exact h
   |false=>exact g_ hn f _ _ h⟩⟩
theorem jP{n:Nat}(hn:0<n){p:Array Nat}(h:Bel n p)(a b:Nat):bE n (λr=>Bel n r.2) (PySem.W.kas_tail3 a b p):=by
 unfold PySem.W.kas_tail3;refine bE.bind (r:=λ_=>True) (λm _=>?_) _ (h9 hn (h.rev _ _) _ _);show Bel n (bc p 0 a);exact h.rev _ _
theorem mF{n:Nat}(hn:0<n){p:Array Nat}(h:Bel n p)(a b:Nat):bE n (λr=>Bel n r.2) (PySem.W.kas_descPart a b p):=by
 refine bE.bind (λr hr=>?_) _ (g_ hn _ _ _ h);split
 ·exact jP hn (hr.rev _ _) _ _
 ·exact jP hn hr _ _
theorem sU{n:Nat}(hn:0<n){p:Array Nat}(h:Bel n p)(m:Nat):bE n (λr=>Bel n r.2) (PySem.W.kas_count m p):=by
 refine bE.bind (λr _=>?_) _ (h9 hn h _ _);split
 ·exact h
 ·split
  ·exact⟨h.get hn _,h.get hn _,λb=>by cases b with
    |true=>exact h
    |false=>exact mF hn (h.rev _ _) _ _⟩
  ·exact mF hn h _ _
theorem iw{n:Nat}(hn:0<n){p:Array Nat}(h:Bel n p)(k:Nat):∀f l r,bE n (λ_=>True) (PySem.W.kas_place p k f l r)
 | 0,_,_=>trivial
 |f+1,l,r=>by
  unfold PySem.W.kas_place;split
  ·exact trivial
  ·exact⟨h.get hn _,h.get hn _,λb=>by cases b with
    |true=>exact iw hn h k f _ _
    |false=>exact iw hn h k f _ _⟩
theorem mE{n:Nat}(hn:0<n):∀f {p:Array Nat} k,Bel n p->bE n (Bel n) (PySem.W.kas_bin f p k)
 | 0,_,_,h=>h
 |f+1,p,k,h=>bE.bind (λl _=>mE hn f _ (h.bub _ _)) _ (iw hn h k k 0 k)
theorem i_{n:Nat}(hn:0<n):bE n (Bel n) (PySem.W.kas_sort n):=by
 have h0:Bel n (List.toArray (aV n)):=⟨by simp,λx hx=>by simpa using hx⟩
 refine bE.bind (λr hr=>?_) _ (sU hn h0 n);split
 ·exact mE hn _ _ hr
 ·exact hr
theorem bE.run{α:Type}{n:Nat}{r:α->Prop}{lt:Nat->Nat->Bool}:∀(t:PySem.W.KasT α),bE n r t->r (qh lt t)
 | .ret _,h=>h
 | .ask i j k,⟨_,_,h⟩=>bE.run (k (lt i j)) (h _)
noncomputable def ltP(p q:Int×Int):Bool:=if p.1=q.1 then decide (p.2<q.2)else decide (p.1<q.1)
noncomputable def zN(ks:List (Int×Int)):List Nat:=if ks.length<2 then aV ks.length else (qh (λi j=>ltP (ks.getD i (0,0)) (ks.getD j (0,0))) (PySem.W.kas_sort ks.length)).toList
section
variable{prog:av}{w:au}{A:aw}{E:ae->af->Prop}{s:af}
theorem pI{vs:List ae}{ks:List (Int×Int)}(hl:ks.length=vs.length)(hp:∀(i:Nat) p,ks[i]? = some p->∃a t u o n,vs[i]? = some (.ref a)/\s.heap.get? a=some o/\o.data=.seq #[.int p.1 t,.int p.2 u] n){i j:Nat}(hi:i<ks.length)(hj:j<ks.length){C:Bool->af->Prop}
  (h:C (ltP (ks.getD i (0,0)) (ks.getD j (0,0))) s):PySem.W.kas_ask prog w A (tuples' true) vs i j C s:=by
 obtain⟨a,t,u,o,n,e1,e2,e3⟩:=hp i ks[i] (by simp[hi]);obtain⟨a',t',u',o',n',f1,f2,f3⟩:=hp j ks[j] (by simp[hj]);unfold PySem.W.kas_ask;have g1:vs.getD i bf=.ref a:=by rw[List.getD_eq_getElem?_getD,e1];rfl
 have g2:vs.getD j bf=.ref a':=by rw[List.getD_eq_getElem?_getD,f1];rfl
 have k1:ks.getD i (0,0)=ks[i]:=by simp[hi]
 have k2:ks.getD j (0,0)=ks[j]:=by simp[hj]
 rw[g1,g2];rw[k1,k2]at h;refine PySem.W.kat_lt e2 e3 f2 f3 ?_;show PySem.W.KatLex prog w A true _ C [(ae.int ks[i].1 t,ae.int ks[j].1 t'),(ae.int ks[i].2 u,ae.int ks[j].2 u')] 0 s;refine PySem.W.kat_cons (SeqAt.EqAt.int_int _ _ _ _ prog w _ _ ?_);unfold ltP at h;by_cases hc:ks[i].1=ks[j].1
 ·rw[if_pos hc]at h;rw[show (ks[i].1==ks[j].1)=true by simp[hc]];refine PySem.W.kat_yes (PySem.W.kat_cons (SeqAt.EqAt.int_int _ _ _ _ prog w _ _ ?_));by_cases hd:ks[i].2=ks[j].2
  ·rw[show (ks[i].2==ks[j].2)=true by simp[hd]];refine PySem.W.kat_yes (PySem.W.kat_nil ?_);have:decide (ks[i].2<ks[j].2)=false:=decide_eq_false (by lia);rw[this]at h;exact h
  ·rw[show (ks[i].2==ks[j].2)=false by simp[hd]];exact PySem.W.kat_no (PySem.W.kat_one _ _ (lt_int h))
 ·rw[if_neg hc]at h;rw[show (ks[i].1==ks[j].1)=false by simp[hc]];exact PySem.W.kat_no (oneLt_int h)
end
theorem nY{h:Heap}{a:Addr}{m m':Str->Option ae}(x:h.Ns a m)(y:h.Ns a m'):m=m':=by
 obtain⟨o,es,ep,e1,e2,_,e4⟩:=x;obtain⟨o',es',ep',f1,f2,_,f4⟩:=y;rw[e1]at f1;cases f1;rw[e2]at f2;cases f2;funext n;rw[<-e4,<-f4]
theorem Inv.newList{X:Cx}{pins:List (Addr×Obj)}{σ:St}{H:Hp}{s s':af}{D:Addr}{out:List V}{its:List ae}{c:Nat}(I:Inv X pins σ H s)(hos:s'.os=s.os)(hg:s'.gens=s.gens)
  (k:∀b o,b≠X.env.locals->s.heap.get? b=some o->s'.heap.get? b=some o) (ns:∀m,s.heap.Ns X.env.locals m->s'.heap.Ns X.env.locals m) (hD:s.heap.get? D=none) (hDL:D≠X.env.locals)
  (hl:s'.heap.get? D=some {cls:=.type "list",data:=.seq its.toArray c}) (r:Vals out its) (hz:out.length<=aK):Inv X pins σ (upd H D (.lst out)) s':=by
 obtain⟨h',g',d',t',o'⟩:=s';have eo:o'=s.os:=hos;have eg:g'=s.gens:=hg;subst eo eg;have hpn:H D=none:=I.hok.free_of hD;have np:∀b u,H b=some u->b≠D:=λb u e z=>by rw[z,hpn]at e;cases e
 obtain⟨m0,n0,_⟩:=id I.loc;obtain⟨oL,es,ep,hoL,_⟩:=id n0;obtain⟨oL',es',ep',hoL',_⟩:=ns _ n0;refine I.step (g':=s.gens) (d':=d') (ch:=[]) (λb hb=>absurd hb (by simp)) (λb o hL _ _ e _=>k b o hL e) (λb o hL _ _ e _=>⟨o.slots,k b o hL e⟩) (λb o _ e n=>?_) (λb o _ e=>?_)
  (λb xs e=>by rw[qg (np b _ e)];exact e) (λb o u e=>by rw[qg (np b _ e)];exact e) (λb ps e=>⟨#[],by rw[qg (np b _ e),e];simp⟩) ns (λb u e=>?_) I.bare
 ·rw[qg (λz=>by rw[z,hD]at e;cases e)];exact n
 ·by_cases hL:b=X.env.locals
  ·exact⟨oL',by rw[hL];exact hoL'⟩
  ·exact⟨o,k b o hL e⟩
 ·by_cases hb:b=D
  ·subst hb;rw[zp]at e;cases e;exact⟨hz,its,c,r,hl⟩
  ·rw[qg hb]at e;have nl:∀c,(∃u,H c=some u)->c≠X.env.locals:=λc ⟨u,e⟩ z=>by rw[z,I.free]at e;cases e
   refine(I.hok b u e).stay (λc v hc q=>k c v (nl c ?_) q) (λc q=>by rw[qg (np c _ q)];exact q) λc xs q=>by rw[qg (np c _ q)];exact q
   rcases hc with z|z
   ·exact⟨u,by rw[z];exact e⟩
   ·exact⟨_,z⟩
theorem lj{xs:List V}{us:List ae}(r:Vals xs us):∀(l:List Nat),(∀i∈l,i<xs.length)->Vals (l.map λi=>xs.getD i .non) (l.map λi=>us.getD i .none)
 | [],_=>.nil
 |i::l,h=>by
  have hi:i<xs.length:=h i aL;obtain⟨u,hu,ru⟩:=r.get (i:=i) (x:=xs[i]) (by simp[hi]);refine .cons ?_ (lj r l λj hj=>h j (aI _ hj));have e1:xs.getD i .non=xs[i]:=by simp[hi]
  have e2:us.getD i .none=u:=by rw[List.getD_eq_getElem?_getD,hu];rfl
  show RelV (xs.getD i .non) (us.getD i .none);rw[e1,e2];exact ru
theorem jW{ks:List (Int×Int)}:∀i∈zN ks,i<ks.length:=by
 intro i hi;unfold zN at hi;split at hi
 ·simpa using hi
 ·rename_i h
  have:=bE.run (lt:=λi j=>ltP (ks.getD i (0,0)) (ks.getD j (0,0))) _ (i_ (n:=ks.length) (by lia));exact this.2 i (by simpa using hi)
theorem su{ks:List (Int×Int)}:(zN ks).length=ks.length:=by
 unfold zN;split
 ·simp
 ·rename_i h
  have:=bE.run (lt:=λi j=>ltP (ks.getD i (0,0)) (ks.getD j (0,0))) _ (i_ (n:=ks.length) (by lia))
  simpa using this.1
theorem l5{h:Heap}:∀(its:List ae),(∀i,i<its.length->∃a o x y t u n,its[i]? = some (.ref a)/\h.get? a=some o/\o.cls=.type "tuple"/\o.data=.seq #[.int x t,.int y u] n)->∃fs,PySem.W.KatTups h its fs/\fs.length=its.length/\∀v∈fs,∃i t,v=ae.int i t
 | [],_=>⟨[],trivial,rfl,λ_ h=>nomatch h⟩
 |v::r,hh=>by
  obtain⟨fs,k1,k2,k3⟩:=l5 r λi hi=>by simpa using hh (i+1) (by simpa using hi)
  obtain⟨a,o,x,y,t,u,n,z1,z2,z3,z4⟩:=hh 0 (by simp);have e:v=.ref a:=by simpa using z1
  subst e;exact⟨.int x t::fs,PySem.W.KatTups.cons z2 z3 z4 rfl k1,by simp[k2],λw hw=>(aG.mp hw).elim (λz=>⟨x,t,z⟩) (k3 w)⟩
section
variable{prog:av}{w:au}{A:aw}{E:ae->af->Prop}{s:af}
theorem y7{a:Addr}{vs:List ae}{P:Fin->af->Prop}(hoL:s.heap.get? a=some (seqObj "list" vs.toArray 0))(h2:vs.length<2)(h:P (.done (.ret .none)) {s with heap:=sortedHeap s.heap a vs vs.toArray}) :
  ai (aj prog w) A (Builtin.«list.sort» ⟨[.ref a],[]⟩) P E s:=by
 rw[list_sort_plain];refine ag (listItems_at  hoL rfl ?_);refine ag (listUpdate_at  hoL rfl ?_ (by rw[aO,a0];lia) (Nat.zero_le _));obtain⟨e1,ho1⟩:∃e1,(s.heap.update a (bz λ_=>#[])).get? a=some (seqObj "list" #[] e1):=⟨_,get?_update_seq hoL (λ_=>#[])⟩
 refine ag (seqEpoch_at ho1 rfl ?_);refine ag (wpAny_newTuple ?_ (by show vs.length<=_;rw[a0];lia));refine ag (wpAny_newList ?_ (Nat.zero_le _));refine bO ?_;have hlt:a<s.heap.objs.size:=aC hoL;have ho6:(((s.heap.update a (bz λ_=>#[])).push (seqObj "tuple" vs.toArray 0)).push (seqObj "list" #[] 0)).get? a=some (seqObj "list" #[] e1):=by
  rw[Heap.get?_push_ne _ _ _ (by rw[size_push',Heap.size_update];exact aS (Nat.lt_succ_of_lt hlt)),Heap.get?_push_ne _ _ _ (by rw[Heap.size_update];exact aS hlt)];exact ho1
 show ai (aj prog w) _ _ _ _ {s with heap:=((s.heap.update a (bz λ_=>#[])).push (seqObj "tuple" vs.toArray 0)).push (seqObj "list" #[] 0)};dsimp only;have h2':vs.toArray.size<2:=by rw[aO];exact h2
 rw[if_pos h2',if_pos h2'];refine ag (ax ?_);rw[StateT.run_pure];refine ag (ax ?_);dsimp only;refine ag (seqEpoch_at ho6 rfl ?_);have hout:(arrOf (SortSt.mk' general' (vs.toArray.zip vs.toArray) #[] 7 none)).map (·.2)=vs.toArray:=by
  show (vs.toArray.zip vs.toArray).map (·.2)=vs.toArray;apply Array.toList_inj.mp;simp[List.map_snd_zip]
 refine ag (listUpdate_at ho6 rfl ?_ (Nat.zero_le _) (by rw[hout,aO,a0];lia));simp only[bne_self_eq_false,b9,if_false];refine ax ?_;rw[hout];exact h
theorem Am{l:Addr}{vs:List ae}{Q:ae->af->Prop}(hl:s.heap.IsList l vs.toArray)(h2:vs.length<2)(h:Q (.ref (s.heap.objs.size+1)) {s with heap:=sortedAll s.heap vs vs.toArray}):ai (aj prog w) A (call (.builtin "sorted") [.ref l]) Q E s:=by
 refine Calls.call_function_entry kind_sorted plain_sorted entry_sorted (args_sorted1 _) ?_;unfold Builtin.«sorted»;refine ag (m:=checkCount "sorted" 1 1 _) (ax ?_);refine ag (collect_list hl ?_ (by rw[a0];lia));refine ag (wpAny_newList ?_ (by rw[a0];lia));have hsz:((s.heap.push (seqObj "list" #[] 0)).update s.heap.objs.size (bz (· ++ vs.toArray))).objs.size=s.heap.objs.size+1:=by rw[Heap.size_update,size_push']
 have hoL:(((s.heap.push (seqObj "list" #[] 0)).update s.heap.objs.size (bz (· ++ vs.toArray))).push (seqObj "list" vs.toArray 0)).get? (s.heap.objs.size+1)=some (seqObj "list" vs.toArray 0):=by rw[<-hsz];exact Heap.get?_push_size _ rfl
 show ai _ _ _ _ _ {s with heap:=((s.heap.push (seqObj "list" #[] 0)).update s.heap.objs.size (bz (· ++ vs.toArray))).push (seqObj "list" vs.toArray 0)};rw[hsz];refine ag (bO (cw slot_list_sort ⟨_,hoL,rfl⟩ entry_list_sort ?body (args_list_sort _)))
 case body=>
  exact y7 hoL h2 ⟨_,rfl,ax ⟨_,rfl,h⟩⟩
end
noncomputable def Ay(K:aq):List V->Hp->VK->Prop:=λvs H Q=>∃(l:Addr) (ps:List Addr) (ks:List (Int×Int)),vs=[.ref l]/\SqL K H l (ps.map V.ref)/\ks.length=ps.length/\ps.length<64 /\
 (∀(i:Nat) p k,ps[i]? = some p->ks[i]? = some k->SqT K H p [.int k.1,.int k.2])/\∀D,H D=none->Q (.ref D) (upd H D (.lst ((zN ks).map λi=>(ps.map V.ref).getD i .non)))
theorem uv{X:Cx}:zg X (.builtin "sorted") (Ay X.K):=by
 intro pins s σ H xs us Q I r h;obtain⟨l,ps,ks,rfl,hl,hlen,h64,hp,q⟩:=h;obtain⟨u,rfl,ru⟩:=r.one;cases ru;obtain⟨its,rv,pl,hz⟩:=I.list hl;have hits:its.length=ks.length:=by rw[<-rv.length,aW,hlen]
 have small:ks.length<=sizeLine:=by rw[a0];lia
 have rout:=lj rv (zN ks) (λi hi=>by rw[aW,<-hlen];exact jW i hi);have zout:((zN ks).map λi=>(ps.map V.ref).getD i .non).length<=sizeLine:=by rw[aW,su];exact small
 by_cases h2:ks.length<2
 ·refine Am pl.isList (by lia) ?_;have e:(zN ks).map (λi=>(ps.map V.ref).getD i .non)=ps.map V.ref:=by
   unfold zN;rw[if_pos h2]
   match ps,ks,hlen with
   | [],[],_=>rfl
   | [p],[k],_=>rfl
   |_::_::_,_::_::t,_=>exact absurd h2 (by show ¬ (t.length+1+1<2);lia)
  obtain⟨c,hc⟩:=sortedAll_at s.heap its its.toArray;have hD0:s.heap.get? (s.heap.objs.size+1)=none:=Heap.get?_none_of_le (Nat.le_succ _);have q':=q (s.heap.objs.size+1) (I.hok.free_of hD0);rw[e]at q';refine⟨.ref (s.heap.objs.size+1),_,I.newList (s':={s with heap:=sortedAll s.heap its its.toArray}) (c:=c) rfl rfl (λb o _ e=>sortedAll_old e) (λm hm=>hm.keeps λb o e=>sortedAll_old e) hD0 (Nat.ne_of_gt (Nat.lt_succ_of_lt I.lt)) hc rv (by rw[aW];lia),rfl,q'⟩
 ·obtain⟨m,F⟩:=I.fr;refine PySem.W.kat_sorted F (ng (g:=X.base) (h:=s.heap) (L:=X.env.locals)) pl.isList (by lia) (by lia) λD e1 h' F' N' hlt=>?_
  have keep:∀b o,b≠X.env.locals->s.heap.get? b=some o->h'.get? b=some o:=λb o hb e=>by
   cases qb:X.base.get? b with
   |some ob=>have:=I.bk b ob qb;rw[e]at this;cases this;exact F'.keep b _ qb
   |none=>exact(N' (b,o) (aI _ (fo hb qb e))).1
  have hDn:=N' (D,_) aL;have hD0:s.heap.get? D=none:=by
   cases qd:s.heap.get? D with
   |none=>rfl
   |some o=>exact absurd (hlt (D,o) (fo hDn.2.1 hDn.2.2 qd)) (bh _)
  have tup:∀(i:Nat) p,ks[i]? = some p->∃a t u o n,its[i]? = some (.ref a)/\h'.get? a=some o/\o.cls=.type "tuple"/\o.data=.seq #[.int p.1 t,.int p.2 u] n:=λi p hk=>by
   have hi:i<ks.length:=(List.getElem?_eq_some_iff.mp hk).1;have hi':i<ps.length:=by lia
   obtain⟨v,hv,rvv⟩:=rv.get (i:=i) (x:=.ref ps[i]) (by simp[hi']);cases rvv;obtain⟨its2,r2,p2,_⟩:=I.tuple (hp i ps[i] p (by simp[hi']) hk);obtain⟨v1,v2,rfl,⟨t,rfl⟩,⟨u,rfl⟩⟩:=r2.two;obtain⟨o,e1,e2,n,e3⟩:=p2;have hne:ps[i]≠X.env.locals:=λz=>by
    obtain⟨_,⟨oL,es,ep,hoL,hdL,_⟩,_⟩:=I.loc;rw[z,hoL]at e1;cases e1;rw[hdL]at e3;cases e3
   exact⟨ps[i],t,u,o,n,hv,keep _ _ hne e1,e2,e3⟩
  obtain⟨fs,kt,kl,kf⟩:=l5 (h:=h') its λi hi=>by
   obtain⟨a,t,u,o,n,z1,z2,z3,z4⟩:=tup i ks[i] (by simp[show i<ks.length by lia]);exact⟨a,o,_,_,t,u,n,z1,z2,z3,z4⟩
  refine PySem.W.kat_kind (s:={s with heap:=h'}) (T:=.type "int") (fs:=fs) kt (by lia) (λv hv=>?_) (by decide) ?_
  ·obtain⟨i,t,rfl⟩:=kf v hv;exact PySem.W.Looks.of_pure rfl
  ·have hb:((ae.type "int") != ae.type "tuple")=true:=by decide
   rw[hb];refine mJ (n:=ks.length) (r:=Bel ks.length) (lt:=λi j=>ltP (ks.getD i (0,0)) (ks.getD j (0,0))) (λi j C hi hj hC=>?_) _ (by rw[hits];exact i_ (by lia)) ?_
   ·exact pI (s:={s with heap:=h'}) hits.symm (λi p hk=>by obtain⟨a,t,u,o,n,z1,z2,_,z4⟩:=tup i p hk;exact⟨a,t,u,o,n,z1,z2,z4⟩) hi hj hC
   ·refine⟨_,_,F',N',.head (λp hp=>aS (hlt p hp)),λh'' c F'' N''=>?_⟩;have e:(qh (λi j=>ltP (ks.getD i (0,0)) (ks.getD j (0,0))) (PySem.W.kas_sort its.length)).toList=zN ks:=by unfold zN;rw[if_neg h2,hits]
    rw[e]at N'';refine⟨.ref D,_,I.newList (s':={s with heap:=h''}) (c:=c) rfl rfl (λb o hb e=>?_) (λm' hm'=>?_) hD0 hDn.2.1 (N'' (D,_) aL).1 rout zout,rfl,q D (I.hok.free_of hD0)⟩
    ·cases qb:X.base.get? b with
     |some ob=>have:=I.bk b ob qb;rw[e]at this;cases this;exact F''.keep b _ qb
     |none=>exact(N'' (b,o) (aI _ (fo hb qb e))).1
    ·rw[nY hm' F.ns];exact F''.ns
section
variable{X:Cx}{pins:List (Addr×Obj)}{σ:St}{H:Hp}{s:af}
theorem Inv.big(I:Inv X pins σ H s):sysModules<s.heap.objs.size:=by
 obtain⟨o,_,_,e,_⟩:=I.mod.glob;exact Nat.lt_of_le_of_lt (by decide) (aC (I.bk _ _ e))
theorem xv{pos:Pos}:PE X (.Dict [] [] pos) (λ_ H Q=>∀p,H p=none->Q (.ref p) (upd H p (.dK []))):=λpins s σ H Q I h=>
 wpAny_Dict_empty ⟨.ref s.heap.objs.size,_,I.laid (a:=s.heap.objs.size) (o:=.dK []) (t':=s.toks) (λ_ _ q=>Heap.get?_push_of_some _ q) (aF _) ⟨Nat.zero_le _,beq_eq_false_iff_ne.mpr (Ne.symm (aS I.big)),[],.nil,Heap.DictOf.new s.heap⟩,rfl,h _ (I.hok.fresh (aF _))⟩
theorem iD{A:aw}{bs:List Bool}{us:List ae}(r:Vals (bs.map V.bl) us):us=bs.map ae.bool:=by
 induction bs generalizing us with
 |nil=>cases r;rfl
 |cons b bs ih=>cases r with
  |cons h t=>rw[ih t,show _=bp b from h];rfl
end
section
variable{X:Cx}
noncomputable def mX(r r' r'':R2)(ta tb tc td:TE):TE:=λσ H Q=>ta σ H λx H1=>tb σ H1 λy H2=>r x y H2 λz H3=>∃k,z=.bl k /\
 (if k=true then tc σ H3 λw' H4=>r' y w' H4 λz H5=>∃k,z=.bl k/\(if k=true then td σ H5 λw'' H6=>r'' w' w'' H6 Q else Q (.bl false) H5)else Q (.bl false) H3)
theorem vw{a b c d:Expr}{ta tb tc td:TE}{pos:Pos}{op op' op'':CmpOp}{r r' r'':R2}(ho:OpR X (aQ op) r)(ho':OpR X (aQ op') r')(ho'':OpR X (aQ op'') r'')(ha:PE X a ta)(hb:PE X b tb)(hc:PE X c tc)(hd:PE X d td)
  (hm:lastMarks [op,op',op''] [b,c,d]=false:=by with_unfolding_all rfl):PE X (.Compare a [op,op',op''] [b,c,d] pos) (mX r r' r'' ta tb tc td):=by
 intro pins s σ H Q I h;refine Compare_chain (thn (ha pins s σ H _ I h) λv s1 ⟨x,H1,I1,r1,q1⟩=>chain_link (thn (hb pins s1 σ H1 _ I1 q1) λu s2 ⟨y,H2,I2,r2,q2⟩=>
  thn (ho pins s2 σ H2 x y v u _ I2 r1 r2 q2) λd s3 ⟨z,H3,I3,r3,k,e,q3⟩=>?_)) hm
 subst e;cases r3;refine bB ?_;cases k with
 |false=>exact ite_ff ⟨.bl false,H3,I3,rfl,q3⟩
 |true=>
  refine ite_tt (chain_link (thn (hc pins s3 σ H3 _ I3 q3) λw' s4 ⟨z',H4,I4,r4,q4⟩=>thn (ho' pins s4 σ H4 y z' u w' _ I4 r2 r4 q4) λd' s5 ⟨z2,H5,I5,r5,k2,e2,q5⟩=>?_));subst e2;cases r5;refine bB ?_;cases k2 with
  |false=>exact ite_ff ⟨.bl false,H5,I5,rfl,q5⟩
  |true=>exact ite_tt (chain_last (thn (hd pins s5 σ H5 _ I5 q5) λw'' s6 ⟨z3,H6,I6,r6,q6⟩=>ho'' pins s6 σ H6 z' z3 w' w'' Q I6 r4 r6 q6))
noncomputable def oQ(K:aq):R2:=λx y H Q=>∃a b xs ys,x=.ref a/\y=.ref b/\SqT K H a xs/\SqT K H b ys/\xs.length+ys.length<=aK /\
 (xs=[]->Q (.ref b) H)/\(xs≠[]->ys=[]->Q (.ref a) H)/\(xs≠[]->ys≠[]->∀p,H p=none->Q (.ref p) (upd H p (.tup (xs++ys))))
theorem xk:OpR X (bq .Add) (oQ X.K):=by
 intro pins s σ H x y v u Q I rx ry h;obtain⟨a,b,xs,ys,rfl,rfl,ha,hb,hz,q0,q1,q2⟩:=h;by_cases hx:xs=[]
 ·subst hx;cases rx;cases ry;obtain⟨its,r1,p1,_⟩:=I.tuple ha;obtain⟨its2,r2,p2,_⟩:=I.tuple hb;cases r1;obtain⟨⟨cls,dd,data,sl⟩,ho,hc,n,hd⟩:=id p1;obtain⟨⟨cls2,dd2,data2,sl2⟩,ho2,hc2,n2,hd2⟩:=id p2;simp only at hc hd hc2 hd2;subst hc hd hc2 hd2;exact concat_meets ⟨_,ho,rfl⟩ ⟨_,ho2,rfl⟩ noFill_tuple_add seq_tuple_add PySem.F.slot_tuple_add PySem.F.entry_tuple_add (PySem.F.args_tuple_add_2 _ _)
   (tuple_addW0 a b _ its2.toArray n n2 dd dd2 sl sl2 (by simp)) ⟨ho,ho2,⟨.ref b,H,I,rfl,q0 rfl⟩⟩
 ·exact yv pins s σ H (.ref a) (.ref b) v u Q I rx ry ⟨a,b,xs,ys,rfl,rfl,ha,hb,hx,hz,q1 hx,q2 hx⟩
theorem nZ{vs:List ae}{ns:List Int}(h:IntsAre vs ns):Vals (ns.map V.int) vs:=by
 induction h with
 |nil=>exact .nil
 |cons n t _ ih=>exact .cons ⟨t,rfl⟩ ih
noncomputable def vY(K:aq):List V->Hp->VK->Prop:=λvs H Q=>∃(l:Addr) (ns:List Int),vs=[.ref l]/\SqL K H l (ns.map V.int)/\ns.length<64/\∀(D:Addr) (ms:List Int),H D=none->ms.Perm ns->ms.Pairwise (·<=·)->Q (.ref D) (upd H D (.lst (ms.map V.int)))
theorem rj:zg X (.builtin "sorted") (vY X.K):=by
 intro pins s σ H xs us Q I r h;obtain⟨l,ns,rfl,hl,h64,q⟩:=h;obtain⟨u,rfl,ru⟩:=r.one;cases ru;obtain⟨its,rv,pl,hz⟩:=I.list hl;obtain⟨m,F⟩:=I.fr;refine PySem.W.kso_sorted F (ng (g:=X.base) (h:=s.heap) (L:=X.env.locals)) pl.isList (intsAre_of rv) h64 λD vs' ns' c h' F' N' hlt hi he hp ho _=>?_
 have keep:∀b o,b≠X.env.locals->s.heap.get? b=some o->h'.get? b=some o:=λb o hb e=>by
  cases qb:X.base.get? b with
  |some ob=>have:=I.bk b ob qb;rw[e]at this;cases this;exact F'.keep b _ qb
  |none=>exact(N' (b,o) (aI _ (fo hb qb e))).1
 have hDn:=N' (D,_) aL;have hD0:s.heap.get? D=none:=by
  cases qd:s.heap.get? D with
  |none=>rfl
  |some o=>exact absurd (hlt (D,o) (fo hDn.2.1 hDn.2.2 qd)) (bh _)
 refine⟨.ref D,_,I.newList (s':={s with heap:=h'}) (c:=c) rfl rfl keep (λm' hm'=>?_) hD0 hDn.2.1 hDn.1 (nZ hi) (by rw[aW,he,a0];lia),rfl,q D ns' (I.hok.free_of hD0) hp ho⟩;rw[nY hm' F.ns];exact F'.ns
end
noncomputable def Ite(K:aq)(l:Addr):It:=
 ⟨λi H=>∃xs x,SqL K H l xs/\xs[i]? = some x,
  λi H v H'=>∃p x,H p=none/\v=.ref p/\H'=upd H p (.tup [.int i,x])/\∀xs,SqL K H l xs->xs[i]? = some x,
  λi H=>∃xs,SqL K H l xs/\xs.length<=i⟩
theorem uB{P:av}{w:au}{K:aq}{es:List Expr}{ek:Nat}{epos:Pos}{e it l:Addr}(n1:e≠it)(n2:l≠e)(n3:l≠it) :
  Turn P w K (.Tuple es ek epos) (Ite K l) [e,it] e (λi h=>(∃old,IsEnum h e it ((i:Nat):Int) old)/\h.IsListIter it l i) where
 mem:=by simp
 obj:=λi h st b hb=>by
  obtain⟨⟨old,hz⟩,o1,e1,_,d1⟩:=st;have hb':b=e\/b=it:=by simpa using hb
  rcases hb' with q|q
  ·subst q;exact⟨_,hz,λv q=>by cases q⟩
  ·subst q;exact⟨o1,e1,λv q=>by rw[d1]at q;cases q⟩
 keep:=λi h h' st k=>by
  obtain⟨⟨old,hz⟩,h1⟩:=st;exact⟨⟨old,k e (by simp) _ hz⟩,h1.at λo q=>k it (by simp) o q⟩
 item:=by
  intro X hP hw hK hc i pins s σ H E I hf st hg;subst hP hw hK;obtain⟨⟨old,hz⟩,h1⟩:=st;obtain⟨xs,x,q1,hx⟩:=hg;obtain⟨its,r1,p1,z1⟩:=I.list q1;obtain⟨u1,hu1,ru1⟩:=r1.get hx;refine wpAny_pyNext_enum_item hz h1 p1.isList (x:=u1) (by simpa using hu1) n1 λh' a1 a2 a3 a4 hk=>?_
  have hkc:∀b o,b∉[e,it]->s.heap.get? b=some o->h'.get? b=some o:=λb o hb q=>hk b o (λz=>hb (by simp[z])) (λz=>hb (by simp[z])) q
  have I1:Inv X pins σ (upd H s.heap.objs.size (.tup [.int i,x])) {s with heap:=h',toks:=s.toks+1}:=I.turnNew (tk:=s.toks+1) (its:=[.int i s.toks,u1]) hf hkc (aF _) ⟨_,a3,rfl,_,rfl⟩ (.cons ⟨_,rfl⟩ (.cons ru1 .nil)) (by show 2<=aK;decide);have hpn:H s.heap.objs.size=none:=I.hok.fresh (aF _);have hfp:∀b∈[e,it],b≠s.heap.objs.size:=λb hb q=>by
   have hb':b=e\/b=it:=by simpa using hb
   obtain⟨o1,e1,_,d1⟩:=h1;have:b<s.heap.objs.size:=by
    rcases hb' with q|q
    ·subst q;exact aC hz
    ·subst q;exact aC e1
   rw[q]at this;exact bh _ this
  have hnone:∀b∈[e,it],(upd H s.heap.objs.size (.tup [.int i,x])) b=none:=λb hb=>by rw[qg (hfp b hb)];exact(hf b hb).1
  refine⟨_,rfl,?_⟩;refine wpAny_letOwnedTupleGo_enum (s:={s with heap:=h',toks:=s.toks+1}) a1 λh2' hz' hs'=>?_
  obtain⟨f0,f1,f2,f3,f4,f5⟩:=hf e (by simp);refine⟨.ref s.heap.objs.size,_,I1.turned (t':=s.toks+1) (it:=e) (λb o hb q=>(hs'.2 b hb).trans q) (hnone e (by simp)) f1 f3 f4 f5,rfl,⟨_,x,hpn,rfl,rfl,λzs hq=>by rw[I.list_inj hq q1];exact hx⟩,⟨⟨u1,?_⟩,a2.at λo q=>(hs'.2 it (Ne.symm n1)).trans q⟩,hnone⟩
  ·have:((i+1:Nat):Int)=(i:Int)+1:=by push_cast;rfl
   rw[this];exact hz'
 done:=by
  intro X hP hw hK hc i pins s σ H E I hf st hg;subst hP hw hK;obtain⟨⟨old,hz⟩,h1⟩:=st;obtain⟨xs,q1,hx⟩:=hg;obtain⟨its,r1,p1,z1⟩:=I.list q1;have hl:=r1.length;exact wpAny_pyNext_enum_end (I.ok.hd hc) hz h1 p1.isList (by simp;lia) λh' eb=>⟨rfl,I.turnAll (tk:=s.toks) hf λb o hb q=>eb b o (λz=>hb (by simp[z])) q⟩
 self:=λ_ _ _ _ _ st h=>by
  obtain⟨⟨old,hz⟩,_⟩:=st;exact wpAny_pyIter_enum hz h
noncomputable def yw(K:aq)(ta:TA):TI:=λσ H R=>ta σ H λvs H1=>∃(l:Addr),vs=[.ref l]/\(∃xs,SqL K H1 l xs)/\R (Ite K l) H1
theorem rk{X:Cx}{es:List Expr}{ek:Nat}{epos p pos:Pos}{a:Expr}{ta:TA}(hg:Gl X "enumerate")(hm:X.mg "enumerate" = none)(hv:bx "enumerate" = some (.type "enumerate"))(ha:PA X [a] ta)
  (hs:aH [a] X.env=[(false,eval a X.env)]:=by rfl):PI X (.Tuple es ek epos) (.Call (.Name "enumerate" p) [a] [] pos) (yw X.K ta):=by
 intro pins s σ H R I h;refine Call_ (ez I hg hm hv (dC (thn (ha pos pins s σ H _ I h) λus s1 ⟨vs,H1,I1,r1,q1⟩=>?_) (by rw[hs];rfl) (by rfl)));obtain⟨l,e,⟨xs,q2⟩,q⟩:=q1;subst e;cases r1 with
 |cons r rr=>
  cases rr;cases r;obtain⟨its1,v1,p1,_⟩:=I1.list q2;have lt1:l<s1.heap.objs.size:=by obtain⟨_,e,_⟩:=p1.isList;exact aC e
  refine call_enumerate_list p1.isList λh' hE hI hsz k=>?_
  have I2:Inv X pins σ H1 {s1 with heap:=h'}:=I1.kept (t':=s1.toks) k;refine wpAny_pyIter_enum hE ?_;refine⟨_,_,_,_,H1,rfl,I2,uB (P:=X.prog) (w:=X.w) (K:=X.K) (e:=s1.heap.objs.size+1) (it:=s1.heap.objs.size) (l:=l) (Nat.succ_ne_self _) (aS (Nat.lt_succ_of_lt lt1)) (aS lt1),⟨⟨_,hE⟩,hI⟩,λb hb=>?_,q⟩;have hb':b=s1.heap.objs.size+1\/b=s1.heap.objs.size:=by simpa using hb
  have:s1.heap.objs.size<=b:=by
   rcases hb' with q|q
   ·rw[q];exact Nat.le_succ _
   ·rw[q];exact aF _
  exact I1.fpOk this (I1.hok.fresh this)
end L2
namespace L2
open PySem PySem.Spec PyProof.Rows PySem.SeqAt
mutual
inductive dh(K:aq)(H:Hp):V->PyData->Prop
 |non:dh K H .non .none
 |bl (b:Bool):dh K H (.bl b) (.bool b)
 |int (i:Int):dh K H (.int i) (.int i)
 |str (x:Str):dh K H (.str x) (.str x)
 |lst {a:Addr}{xs:List V}{ds:List PyData}:SqL K H a xs->eP K H xs ds->dh K H (.ref a) (.list ds)
 |tup {a:Addr}{xs:List V}{ds:List PyData}:SqT K H a xs->eP K H xs ds->dh K H (.ref a) (.tuple ds)
inductive eP(K:aq)(H:Hp):List V->List PyData->Prop
 |nil:eP K H [] []
 |cons {x:V}{xs:List V}{d:PyData}{ds:List PyData}:dh K H x d->eP K H xs ds->eP K H (x::xs) (d::ds)
end
section
variable{X:Cx}{pins:List (Addr×Obj)}{σ:St}{H:Hp}{s:af}
theorem Inv.reads(I:Inv X pins σ H s){x:V}{d:PyData}(h:dh X.K H x d):∀{u:ae},RelV x u->∃as,Reads s.heap u d as:=
 h.rec (motive_1:=λx d _=>∀{u:ae},RelV x u->∃as,Reads s.heap u d as) (motive_2:=λxs ds _=>∀{us:List ae},Vals xs us->∃as,ReadsAll s.heap us ds as) (λr=>by cases r;exact⟨_,.none⟩) (λb _ r=>by cases r;exact⟨_,.bool b⟩) (λi _ r=>by obtain⟨t,rfl⟩:=r;exact⟨_,.int i t⟩) (λx _ r=>by obtain⟨t,rfl⟩:=r;exact⟨_,.str x t⟩)
  (λh _ g _ r=>by
   cases r;obtain⟨its,rv,pl,_⟩:=I.list h;obtain⟨as,ra⟩:=g rv;obtain⟨o,ho,hc,n,hd⟩:=pl.isList;exact⟨_,Reads.list ho hc hd (by simpa using ra)⟩)
  (λh _ g _ r=>by
   cases r;obtain⟨its,rv,pl,_⟩:=I.tuple h;obtain⟨as,ra⟩:=g rv;obtain⟨o,ho,hc,n,hd⟩:=pl;exact⟨_,Reads.tuple ho hc hd (by simpa using ra)⟩)
  (λr=>by cases r;exact⟨_,.nil⟩) (λ_ _ a b _ r=>by
   cases r with
   |cons r1 r2=>
    obtain⟨as,ra⟩:=a r1;obtain⟨bs,rb⟩:=b r2;exact⟨_,.cons ra rb⟩)
end
section
variable{X:Cx}
end
end L2
namespace L2
open PySem PySem.Spec PyProof.Rows
theorem ff{α β:Type}{lt:Nat->Nat->Bool}{f:α->PySem.W.KasT β}:∀t:PySem.W.KasT α,qh lt (t.bind f)=qh lt (f (qh lt t))
 | .ret _=>rfl
 | .ask i j k=>ff (k (lt i j))
theorem oH{a b:Int×Int}(h:ltP a b=true):ltP b a=false:=by
 unfold ltP at *;by_cases x:a.1=b.1
 ·rw[if_pos x]at h;rw[if_pos x.symm];simp only[decide_eq_true_eq]at h;exact decide_eq_false (by lia)
 ·rw[if_neg x]at h;rw[if_neg (λz=>x z.symm)];simp only[decide_eq_true_eq]at h;exact decide_eq_false (by lia)
structure Wk(lt:Nat->Nat->Bool):Prop where
 asym:∀a b,lt a b=true->lt b a=false
 neg:∀a b c,lt b a=false->lt c b=false->lt c a=false
section
variable{lt:Nat->Nat->Bool}
noncomputable def Asc(lt:Nat->Nat->Bool)(p:Array Nat)(m:Nat):Prop:=∀i j,i<j->j<m->lt (p.getD j 0) (p.getD i 0)=false
noncomputable def Dsc(lt:Nat->Nat->Bool)(p:Array Nat)(m:Nat):Prop:=∀i j,i<j->j<m->lt (p.getD i 0) (p.getD j 0)=false
theorem getD_at(p:Array Nat)(i:Nat):p.getD i 0=(p[i]?).getD 0:=by
 unfold Array.getD;split
 ·rename_i h;simp[h]
 ·rename_i h;simp[h]
theorem dY{p:Array Nat}{i j:Nat}(hj:j<=p.size)(k:Nat):(bc p i j).getD k 0=if i<=k/\k<j then p.getD (i+j-1-k) 0 else p.getD k 0:=by
 rw[getD_at,getD_at,getD_at];unfold bc;rw[getElem?_mirror_all hj];split<;>rfl
theorem hU(p:Array Nat)(i j:Nat):(bc p i j).size=p.size:=mirror_size _ _ _ _
theorem gD(p:Array Nat)(i j:Nat):(bc p i j).Perm p:=mirror_perm _ _ _ _
theorem Dsc.rev{p:Array Nat}{n:Nat}(h:Dsc lt p n)(hn:n<=p.size):Asc lt (bc p 0 n) n:=λi j hij hj=>by
 rw[dY hn,dY hn,if_pos (by lia),if_pos (by lia)];exact h _ _ (by lia) (by lia)
theorem iF(W:Wk lt){p:Array Nat}:∀(f n:Nat),1<=n->Asc lt p n->n<=qh lt (PySem.W.kas_asc p f n)/\qh lt (PySem.W.kas_asc p f n)<=n+f/\Asc lt p (qh lt (PySem.W.kas_asc p f n)) /\
  (qh lt (PySem.W.kas_asc p f n)<n+f->lt (p.getD (qh lt (PySem.W.kas_asc p f n)) 0) (p.getD (qh lt (PySem.W.kas_asc p f n)-1) 0)=true)
 | 0,n,_,h=>⟨aF _,aF _,h,λz=>absurd z (bh _)⟩
 |f+1,n,h1,h=>by
  have e:qh lt (PySem.W.kas_asc p (f+1) n)=qh lt (if lt (p.getD n 0) (p.getD (n-1) 0)=true then .ret n else PySem.W.kas_asc p f (n+1)):=rfl;rw[e];cases hc:lt (p.getD n 0) (p.getD (n-1) 0)with
  |true=>
   rw[if_pos rfl];exact⟨aF _,Nat.le_add_right _ _,h,λ_=>hc⟩
  |false=>
   rw[if_neg (by decide)];obtain⟨a1,a2,a3,a4⟩:=iF W f (n+1) (by lia) λi j hij hj=>by
    by_cases hjn:j<n
    ·exact h i j hij hjn
    ·have:j=n:=by lia
     subst this;by_cases hi:i=j-1
     ·subst hi;exact hc
     ·exact W.neg _ _ _ (h i (j-1) (by lia) (by lia)) hc
   exact⟨by lia,by lia,a3,λz=>a4 (by lia)⟩
noncomputable def Run(lt:Nat->Nat->Bool)(p:Array Nat)(n q:Nat):Prop:=∀i j,n-1-q<=i->i<n->n-1-q<=j->j<n->lt (p.getD i 0) (p.getD j 0)=false
theorem Dsc.run{p:Array Nat}{n q:Nat}(h:Dsc lt p n)(r:Run lt p n q)(hq:q<n)(hn:n<=p.size):Dsc lt (bc p (n-(q+1)) n) n:=λi j hij hj=>by
 rw[dY hn,dY hn];by_cases ci:n-(q+1)<=i
 ·rw[if_pos (by lia),if_pos (by lia)];exact r _ _ (by lia) (by lia) (by lia) (by lia)
 ·rw[if_neg (by lia)];split
  ·exact h _ _ (by lia) (by lia)
  ·exact h _ _ hij hj
theorem gv(W:Wk lt):∀(f:Nat) (p:Array Nat) (n q:Nat),1<=n->n+f<=p.size->q<n->Dsc lt p n->Run lt p n q ->
  (qh lt (a9 f p n q)).1.Perm p/\(qh lt (a9 f p n q)).1.size=p.size/\n<=(qh lt (a9 f p n q)).2.1/\(qh lt (a9 f p n q)).2.1<=n+f /\
  (qh lt (a9 f p n q)).2.2<(qh lt (a9 f p n q)).2.1/\Dsc lt (qh lt (a9 f p n q)).1 (qh lt (a9 f p n q)).2.1/\Run lt (qh lt (a9 f p n q)).1 (qh lt (a9 f p n q)).2.1 (qh lt (a9 f p n q)).2.2
 | 0,p,n,q,h1,hs,hq,hd,hr=>⟨Array.Perm.refl _,rfl,aF _,aF _,hq,hd,hr⟩
 |f+1,p,n,q,h1,hs,hq,hd,hr=>by
  have e:qh lt (a9 (f+1) p n q)=qh lt (if lt (p.getD n 0) (p.getD (n-1) 0)=true then (if q>0 then a9 f (bc p (n-(q+1)) n) (n+1) 0 else a9 f p (n+1) 0)
   else .ask (p.getD (n-1) 0) (p.getD n 0) λd=>if d=true then .ret (p,n,q)else a9 f p (n+1) (q+1)):=rfl
  rw[e];have one:∀p':Array Nat,Run lt p' (n+1) 0:=λp' i j hi hi' hj hj'=>by
   have:i=j:=by lia
   subst this;cases z:lt (p'.getD i 0) (p'.getD i 0)with
   |false=>rfl
   |true=>have:=W.asym _ _ z;rw[z]at this;cases this
  have grow:∀p':Array Nat,Dsc lt p' n->(∀i,i<n->lt (p'.getD i 0) (p'.getD n 0)=false)->Dsc lt p' (n+1):=λp' hd' hn' i j hij hj=>by
   by_cases hjn:j<n
   ·exact hd' i j hij hjn
   ·have:j=n:=by lia
    subst this;exact hn' i hij
  have refl:∀a,lt a a=false:=λa=>by
   cases z:lt a a with
   |false=>rfl
   |true=>have:=W.asym _ _ z;rw[z]at this;cases this
  cases hc:lt (p.getD n 0) (p.getD (n-1) 0)with
  |true=>
   rw[if_pos rfl];have hc':=W.asym _ _ hc;have below:∀i,i<n->lt (p.getD i 0) (p.getD n 0)=false:=λi hi=>by
    by_cases z:i=n-1
    ·subst z;exact hc'
    ·exact W.neg _ _ _ hc' (hd i (n-1) (by lia) (by lia))
   by_cases h0:q>0
   ·rw[if_pos h0];have hsz:(bc p (n-(q+1)) n).size=p.size:=hU _ _ _;obtain⟨a1,a2,a3,a4,a5,a6,a7⟩:=gv W f (bc p (n-(q+1)) n) (n+1) 0 (by lia) (by rw[hsz];lia) (by lia) (grow _ (hd.run hr hq (by lia)) λi hi=>by
     rw[dY (by lia),dY (by lia),if_neg (show ¬ (n-(q+1)<=n/\n<n)by lia)];split
     ·exact below _ (by lia)
     ·exact below _ hi) (one _)
    exact⟨a1.trans (gD _ _ _),a2.trans hsz,by lia,by lia,a5,a6,a7⟩
   ·rw[if_neg h0];obtain⟨a1,a2,a3,a4,a5,a6,a7⟩:=gv W f p (n+1) 0 (by lia) (by lia) (by lia) (grow _ hd below) (one _);exact⟨a1,a2,by lia,by lia,a5,a6,a7⟩
  |false=>
   rw[if_neg (by decide)];have e2:qh lt (.ask (p.getD (n-1) 0) (p.getD n 0) λd=>if d=true then .ret (p,n,q)else a9 f p (n+1) (q+1))=qh lt (if lt (p.getD (n-1) 0) (p.getD n 0)=true then .ret (p,n,q)else a9 f p (n+1) (q+1)):=rfl;rw[e2];cases hd2:lt (p.getD (n-1) 0) (p.getD n 0)with
   |true=>
    rw[if_pos rfl];exact⟨Array.Perm.refl _,rfl,aF _,Nat.le_add_right _ _,hq,hd,hr⟩
   |false=>
    rw[if_neg (by decide)];obtain⟨a1,a2,a3,a4,a5,a6,a7⟩:=gv W f p (n+1) (q+1) (by lia) (by lia) (by lia) (grow _ hd λi hi=>by
     by_cases z:i=n-1
     ·subst z;exact hd2
     ·exact W.neg _ _ _ hd2 (hd i (n-1) (by lia) (by lia))) (λi j hi hi' hj hj'=>by
     by_cases zi:i=n
     ·by_cases zj:j=n
      ·rw[zi,zj];exact refl _
      ·rw[zi];exact W.neg _ _ _ (hr (n-1) j (by lia) (by lia) (by lia) (by lia)) hc
     ·by_cases zj:j=n
      ·rw[zj];exact W.neg _ _ _ hd2 (hr i (n-1) (by lia) (by lia) (by lia) (by lia))
      ·exact hr i j (by lia) (by lia) (by lia) (by lia))
    exact⟨a1,a2,by lia,by lia,a5,a6,a7⟩
end
section
variable{lt:Nat->Nat->Bool}
structure Part(lt:Nat->Nat->Bool)(p:Array Nat)(r:Nat×Array Nat):Prop where
 perm:r.2.Perm p
 size:r.2.size=p.size
 lo:1<=r.1
 hi:r.1<=p.size
 asc:Asc lt r.2 r.1
theorem ma(W:Wk lt){p:Array Nat}{n:Nat}(h1:1<=n)(hn:n<=p.size)(hd:Dsc lt p n):Part lt p (qh lt (PySem.W.kas_tail3 n p.size p)):=by
 unfold PySem.W.kas_tail3;rw[ff];obtain⟨a1,a2,a3,_⟩:=iF W (p:=bc p 0 n) (p.size-n) n h1 (hd.rev hn);exact⟨gD _ _ _,hU _ _ _,aZ h1 a1,by show qh lt (PySem.W.kas_asc (bc p 0 n) (p.size-n) n)<=_;lia,a3⟩
theorem Part.of{p p':Array Nat}{r:Nat×Array Nat}(h:Part lt p' r)(hp:p'.Perm p)(hs:p'.size=p.size):Part lt p r:=⟨h.perm.trans hp,h.size.trans hs,h.lo,hs▸h.hi,h.asc⟩
theorem lh(W:Wk lt){p:Array Nat}{n:Nat}(hn:n+1<=p.size)(hd:Dsc lt p (n+1)):Part lt p (qh lt (PySem.W.kas_descPart n p.size p)):=by
 unfold PySem.W.kas_descPart;rw[ff];have refl:∀a,lt a a=false:=λa=>by
  cases z:lt a a with
  |false=>rfl
  |true=>have:=W.asym _ _ z;rw[z]at this;cases this
 obtain⟨a1,a2,a3,a4,a5,a6,a7⟩:=gv W (p.size-(n+1)) p (n+1) 0 (by lia) (by lia) (by lia) hd λi j hi hi' hj hj'=>by
  have:i=j:=by lia
  subst this;exact refl _
 generalize qh lt (a9 (p.size-(n+1)) p (n+1) 0)=r at a1 a2 a3 a4 a5 a6 a7;split
 ·have hsz:(bc r.1 (r.2.1-(r.2.2+1)) r.2.1).size=p.size:=(hU _ _ _).trans a2;have T:=ma W (p:=bc r.1 (r.2.1-(r.2.2+1)) r.2.1) (n:=r.2.1) (by lia) (by rw[hsz];lia) (a6.run a7 a5 (by lia));rw[hsz]at T;exact T.of ((gD _ _ _).trans a1) hsz
 ·have T:=ma W (p:=r.1) (n:=r.2.1) (by lia) (by lia) a6;rw[a2]at T;exact T.of a1 a2
theorem yc(W:Wk lt){p:Array Nat}(h1:1<=p.size):Part lt p (qh lt (PySem.W.kas_count p.size p)):=by
 unfold PySem.W.kas_count;rw[ff];obtain⟨a1,a2,a3,a4⟩:=iF W (p:=p) (p.size-1) 1 (aF _) λi j hij hj=>by lia
 generalize qh lt (PySem.W.kas_asc p (p.size-1) 1)=n at a1 a2 a3 a4;by_cases he:n=p.size
 ·rw[if_pos (by simp[he])];exact⟨Array.Perm.refl _,rfl,a1,by show n<=_;lia,a3⟩
 ·rw[if_neg (by simp[he])];have hlt:=a4 (by lia);have hle:=W.asym _ _ hlt;have start:∀p':Array Nat,(∀i,i<n->lt (p'.getD i 0) (p.getD (n-1) 0)=false/\lt (p.getD (n-1) 0) (p'.getD i 0)=false)->p'.getD n 0=p.getD n 0->Dsc lt p' (n+1):=λp' hp' en i j hij hj=>by
   by_cases hjn:j<n
   ·exact W.neg _ _ _ (hp' j hjn).2 (hp' i (by lia)).1
   ·have:j=n:=by lia
    subst this;rw[en];exact W.neg _ _ _ hle (hp' i hij).1
  by_cases h2:n>1
  ·rw[if_pos h2];have e2:∀t u:PySem.W.KasT (Nat×Array Nat),qh lt (.ask (p.getD 0 0) (p.getD (n-1) 0) λc=>if c=true then t else u)=qh lt (if lt (p.getD 0 0) (p.getD (n-1) 0)=true then t else u):=λ_ _=>rfl
   rw[e2];cases hc:lt (p.getD 0 0) (p.getD (n-1) 0)with
   |true=>
    rw[if_pos rfl];exact⟨Array.Perm.refl _,rfl,a1,by show n<=_;lia,a3⟩
   |false=>
    rw[if_neg (by decide)];have hsz:(bc p 0 n).size=p.size:=hU _ _ _;have all:∀i,i<n->lt (p.getD i 0) (p.getD (n-1) 0)=false/\lt (p.getD (n-1) 0) (p.getD i 0)=false:=λi hi=>by
     have up:lt (p.getD (n-1) 0) (p.getD i 0)=false:=by
      by_cases z:i=n-1
      ·rw[z];cases y:lt (p.getD (n-1) 0) (p.getD (n-1) 0)with
       |false=>rfl
       |true=>have:=W.asym _ _ y;rw[y]at this;cases this
      ·exact a3 i (n-1) (by lia) (by lia)
     refine⟨?_,up⟩;by_cases z:i=0
     ·rw[z];exact hc
     ·exact W.neg _ _ _ hc (a3 0 i (by lia) hi)
    have T:=lh W (p:=bc p 0 n) (n:=n) (by lia) (start _ (λi hi=>by rw[dY (by lia),if_pos (by lia)];exact all _ (by lia)) (by rw[dY (by lia),if_neg (by lia)]));rw[hsz]at T;exact T.of (gD _ _ _) hsz
  ·rw[if_neg h2];have:n=1:=by lia
   subst this;have refl:∀a,lt a a=false:=λa=>by
    cases z:lt a a with
    |false=>rfl
    |true=>have:=W.asym _ _ z;rw[z]at this;cases this
   exact lh W (by lia) (start p (λi hi=>by
    have:i=0:=by lia
    subst this;exact⟨refl _,refl _⟩) rfl)
theorem place_spec(W:Wk lt){p:Array Nat}{k:Nat}(hs:Asc lt p k):∀(f l r:Nat),l<=r->r<=k->r-l<=f->(∀i,i<l->lt (p.getD k 0) (p.getD i 0)=false)->(∀i,r<=i->i<k->lt (p.getD k 0) (p.getD i 0)=true) ->
  qh lt (PySem.W.kas_place p k f l r)<=k/\(∀i,i<qh lt (PySem.W.kas_place p k f l r)->lt (p.getD k 0) (p.getD i 0)=false)/\(∀i,qh lt (PySem.W.kas_place p k f l r)<=i->i<k->lt (p.getD k 0) (p.getD i 0)=true)
 | 0,l,r,h1,h2,h3,hl,hr=>⟨by show l<=k;lia,hl,λi hi=>hr i (by have:l<=i:=hi;lia)⟩
 |f+1,l,r,h1,h2,h3,hl,hr=>by
  unfold PySem.W.kas_place;by_cases hg:l >= r
  ·rw[if_pos hg];exact⟨by show l<=k;lia,hl,λi hi=>hr i (by have:l<=i:=hi;lia)⟩
  ·rw[if_neg hg];have e2:∀t u:PySem.W.KasT Nat,qh lt (.ask (p.getD k 0) (p.getD ((l+r)/2) 0) λc=>if c=true then t else u)=qh lt (if lt (p.getD k 0) (p.getD ((l+r)/2) 0)=true then t else u):=λ_ _=>rfl
   rw[e2];cases hc:lt (p.getD k 0) (p.getD ((l+r)/2) 0)with
   |true=>
    rw[if_pos rfl];refine place_spec W hs f l ((l+r)/2) (by lia) (by lia) (by lia) hl λi hi hik=>?_
    by_cases z:i=(l+r)/2
    ·rw[z];exact hc
    ·cases y:lt (p.getD k 0) (p.getD i 0)with
     |true=>rfl
     |false=>
      have:=W.neg _ _ _ (hs ((l+r)/2) i (by lia) hik) y;rw[hc]at this;cases this
   |false=>
    rw[if_neg (by decide)];refine place_spec W hs f ((l+r)/2+1) r (by lia) h2 (by lia) (λi hi=>?_) hr;by_cases z:i=(l+r)/2
    ·rw[z];exact hc
    ·exact W.neg _ _ _ (hs i ((l+r)/2) (by lia) (by lia)) hc
theorem lJ{p:Array Nat}{k x:Nat}(hk:k<p.size)(hx:x<=k)(i:Nat):(bubble p k (k-x)).getD i 0=if i=x then p.getD k 0 else if x<i/\i<=k then p.getD (i-1) 0 else p.getD i 0:=by
 rw[getD_at,getElem?_bubble hk _ (by lia),show k-(k-x)=x by lia,getD_at,getD_at,getD_at];split
 ·rfl
 ·split<;>rfl
theorem mq(W:Wk lt):∀(f:Nat) (p:Array Nat) (k:Nat),k+f<=p.size->Asc lt p k->(qh lt (PySem.W.kas_bin f p k)).Perm p/\Asc lt (qh lt (PySem.W.kas_bin f p k)) (k+f)
 | 0,p,k,_,h=>⟨Array.Perm.refl _,h⟩
 |f+1,p,k,hs,h=>by
  unfold PySem.W.kas_bin;rw[ff];obtain⟨a1,a2,a3⟩:=place_spec W h k 0 k (Nat.zero_le _) (aF _) (by lia) (λi hi=>by lia) (λi hi hik=>by lia);generalize qh lt (PySem.W.kas_place p k k 0 k)=x at a1 a2 a3;have hsz:(bubble p k (k-x)).size=p.size:=bubble_size _ _ _;obtain⟨b1,b2⟩:=mq W f (bubble p k (k-x)) (k+1) (by rw[hsz];lia) λi j hij hj=>by
   rw[lJ (by lia) a1,lJ (by lia) a1];by_cases zj:j=x
   ·rw[if_pos zj,if_neg (by lia),if_neg (by lia)];exact a2 i (by lia)
   ·rw[if_neg zj];by_cases gj:x<j
    ·rw[if_pos (by lia)];by_cases zi:i=x
     ·rw[if_pos zi];exact W.asym _ _ (a3 (j-1) (by lia) (by lia))
     ·rw[if_neg zi];by_cases gi:x<i
      ·rw[if_pos (by lia)];exact h _ _ (by lia) (by lia)
      ·rw[if_neg (by lia)];exact h _ _ (by lia) (by lia)
    ·rw[if_neg (by lia),if_neg (by lia),if_neg (by lia)];exact h _ _ hij (by lia)
  refine⟨b1.trans (bubble_perm _ _ _),?_⟩;rw[show k+(f+1)=k+1+f by lia];exact b2
theorem wm(W:Wk lt){n:Nat}(hn:0<n):(qh lt (PySem.W.kas_sort n)).toList.Perm (aV n)/\Asc lt (qh lt (PySem.W.kas_sort n)) n:=by
 unfold PySem.W.kas_sort;rw[ff];have hsz:(aV n).toArray.size=n:=by simp
 have C:=yc W (p:=(aV n).toArray) (by rw[hsz];lia);rw[hsz]at C;generalize qh lt (PySem.W.kas_count n (aV n).toArray)=r at C;have tl:∀q:Array Nat,q.Perm (aV n).toArray->q.toList.Perm (aV n):=λq hq=>by
  have:=Array.perm_iff_toList_perm.mp hq
  simpa using this
 have hh:=C.hi;have hl:=C.lo;have h2:=C.size;rw[hsz]at hh h2;split
 ·rename_i hlt
  rw[show max r.1 1=r.1 by lia];obtain⟨b1,b2⟩:=mq W (n-r.1) r.2 r.1 (by lia) C.asc;rw[show r.1+(n-r.1)=n by lia]at b2;exact⟨tl _ (b1.trans C.perm),b2⟩
 ·rename_i hlt
  have:r.1=n:=by lia
  refine⟨tl _ C.perm,?_⟩;have:=C.asc;rw[show r.1=n by lia]at this;exact this
end
theorem xn(f:Nat->Int×Int):Wk λi j=>ltP (f i) (f j):=by
 refine⟨λa b h=>oH h,λa b c h1 h2=>?_⟩;unfold ltP at *;generalize f a=x at *;generalize f b=y at *;generalize f c=z at *;by_cases e1:y.1=x.1
 ·rw[if_pos e1]at h1;by_cases e2:z.1=y.1
  ·rw[if_pos e2]at h2;rw[if_pos (by lia)];have h1:=of_decide_eq_false h1;have h2:=of_decide_eq_false h2;exact decide_eq_false (by lia)
  ·rw[if_neg e2]at h2;have h2:=of_decide_eq_false h2;rw[if_neg (by lia)];exact decide_eq_false (by lia)
 ·rw[if_neg e1]at h1;have h1:=of_decide_eq_false h1;by_cases e2:z.1=y.1
  ·rw[if_neg (by lia)];exact decide_eq_false (by lia)
  ·rw[if_neg e2]at h2;have h2:=of_decide_eq_false h2;rw[if_neg (by lia)];exact decide_eq_false (by lia)
theorem ug(ks:List (Int×Int)):(zN ks).Perm (aV ks.length)/\((zN ks).map λi=>ks.getD i (0,0)).Pairwise λa b=>ltP b a=false:=by
 unfold zN;by_cases h2:ks.length<2
 ·rw[if_pos h2];refine⟨List.Perm.refl _,?_⟩;refine List.pairwise_iff_getElem.mpr λi j hi hj hij=>?_
  rw[aW,List.length_range]at hj;lia
 ·rw[if_neg h2];obtain⟨h1,h3⟩:=wm (xn λi=>ks.getD i (0,0)) (n:=ks.length) (by lia);refine⟨h1,?_⟩;have hlen:=h1.length_eq;rw[List.length_range]at hlen;refine List.pairwise_map.mpr (List.pairwise_iff_getElem.mpr λi j hi hj hij=>?_);have:=h3 i j hij (by lia);rw[getD_at,getD_at]at this;have gi:∀(q:Array Nat) (m:Nat) (hm:m<q.toList.length),(q[m]?).getD 0=q.toList[m]:=λq m hm=>by
   have:m<q.size:=by simpa using hm
   simp[this]
  rw[gi _ j hj,gi _ i hi]at this;exact this
end L2
namespace HT
open PySem PySem.Spec PyProof.Rows L2
section
variable{prog:av}{w:au}{A:aw}{E:ae->af->Prop}{s:af}
theorem oZ{t sl:Addr}{items:Array ae}{vl vu:ae}{lo hi:Option Int}{Q:ae->af->Prop}(ht:IsTup s.heap t items)(hs:s.heap.IsSliceOf sl vl vu .none)(pl:IsPart vl lo)(pu:IsPart vu hi)
  (h0:sIx items.size 0 lo=0) (h1:sIx items.size items.size hi=items.size) (h:Q (.ref t) s):ai (aj prog w) A (getItem (.ref t) (.ref sl)) Q E s:=by
 have sk:s.TypeIs (.ref sl) "slice":=by obtain⟨o,a,b,_⟩:=id hs;exact⟨o,a,b⟩
 unfold getItem
 try with_reducible refine bO ?_
 first|refine ag (ax ?_)|skip
 have ty:=ht.typeIs;apply ag;apply wpAny_sequenceKey ty (by decide);apply ag;apply wpAny_callSpecial?_slot (name:=ah "__getitem__") ty slot_tuple_getitem;refine cw slot_tuple_getitem ty entry_tuple_getitem ?_ (args_tuple_getitem _ _);show ai _ _ (Builtin.Tuple.tupleItemsOf (.ref t)>>=_) _ _ s;apply ag;apply tupleItemsOf_ ht;apply ag;apply wpAny_typeOf sk;rw[if_pos (by decide)];apply ag;apply jI hs pl pu;have yes:(((sIx items.size 0 lo:Nat):Int)==0&&(1:Int)==1&&(sIx items.size items.size hi-sIx items.size 0 lo)==items.size)=true:=by
  rw[h0,h1];simp
 show ai _ _ (if (((sIx items.size 0 lo:Nat):Int)==0&&(1:Int)==1&&(sIx items.size items.size hi-sIx items.size 0 lo)==items.size)=true then _ else _) _ _ s;rw[if_pos yes];apply ag;unfold Builtin.Tuple.tupleIsExact;refine ag (wpAny_typeOf ty (ax ?_));rw[if_pos (by rfl)];exact ag (wpAny_rule (ax ⟨_,rfl,ax h⟩))
end
end HT
namespace L2
open PySem PySem.Spec PyProof.Rows
noncomputable def rJ(K:aq):V->Option Int->Option Int->Hp->VK->Prop:=λx lo hi H Q=>∃a xs,x=.ref a/\SqT K H a xs/\HT.sIx xs.length 0 lo=0/\HT.sIx xs.length xs.length hi=xs.length/\Q x H
theorem ve{X:Cx}:SlR X (rJ X.K):=by
 intro pins s σ H x v vl vu lo hi sl Q I rx hs pl pu ⟨a,xs,e,hx,h0,h1,q⟩;subst e;have rx':=rx;cases rx;obtain⟨its,r,ht,hz⟩:=I.tuple hx;have hl:its.toArray.size=xs.length:=by rw[aO];exact r.length.symm
 exact⟨"tuple",_,slot_tuple_getitem.lookup,ht.typeIs,HT.oZ ht hs pl pu (by rw[hl];exact h0) (by rw[hl];exact h1) ⟨.ref a,H,I,rx',q⟩⟩
noncomputable def oa(K:aq)(C:Addr)(n:Nat)(tb:TS)(Eh:XK)(ts:TS):TS:=λD σ H=>tb {D with nx:=D.nx} σ H /\
 ∀(τ:St) (cls:ae) (dx:Option Addr) (H':Hp),τ.length=n->Eh cls dx H'->bG K cls (.ref C)=some true/\ts {nx:=λ_ _=>False,rt:=D.rt} τ H'
theorem y_{X:Cx}{C:Addr}{cn:Str}{np hpos pos:Pos}{body:List Stmt}{b₀:Stmt}{suite:List Stmt}{tb ts:TS}{Eh:XK}(hex:X.ex=[])(hst:X.stack=X.env::X.outer)(hfr:X.env.frame=some X.env.locals)
  (hg:Gl X cn) (hm:X.mg cn=some (.ref C))
  (hb:∀pn Et,Passes (CX1 X.prog X.w) (X.inTry pn Et) Eh->PSs (X.inTry pn Et) body tb) (hs:∀x,PSs (X.held x) (b₀::suite) ts) (hd:(cn==("__debug__" : Str))=false:=by decide) :
  PS X (.Try body [.ExceptHandler (some (.Name cn np)) none (b₀::suite) hpos] [] [] pos) (oa X.K C X.N.length tb Eh ts):=by
 intro pins s σ H D I h;obtain⟨h1,h2⟩:=h;refine wpAny_Try_except ?_;have okT:∀Et,(X.inTry (X.pn++pins) Et).Ok:=λEt=>
  ⟨I.ok.mod,I.ok.kind,I.ok.glob,I.ok.blt,I.ok.above,I.ok.inj,I.ok.has,I.ok.cab,I.ok.hd,I.ok.frames,I.ok.stk,I.ok.exf,I.ok.bs,I.ok.bsz,I.ok.noex,I.ok.exfs,I.ok.funs,I.ok.frf⟩
 have toT:∀{Et σ H s},Inv X pins σ H s->Inv (X.inTry (X.pn++pins) Et) [] σ H s:=λ{Et σ H s} J=>
  ⟨okT Et,J.os,J.bare,J.base,J.loc,J.cell,J.free,J.freeC,λp hp=>J.pin p (by simpa using hp),J.hok,J.len⟩
 have ofT:∀{Et pins' σ H s},Inv (X.inTry (X.pn++pins) Et) pins' σ H s->Inv X pins σ H s:=λ{Et pins' σ H s} J=>
  ⟨I.ok,J.os,J.bare,J.base,J.loc,J.cell,J.free,J.freeC,λp hp=>J.pin p (List.mem_append_left _ hp),J.hok,J.len⟩
 have hP:Passes (CX1 X.prog X.w) (X.inTry (X.pn++pins) λe s₁=>ai (aj X.prog X.w) X.A (noteFrame e X.env) (λ_ s₂=>ai (aj X.prog X.w) X.A (setFlight e none) (λ_ s₃=>
   ai (aj X.prog X.w) X.A (handleBy e X.env [.ExceptHandler (some (.Name cn np)) none (b₀::suite) hpos]) (SP X pins D) X.xe s₃) X.xe s₂) X.xe s₁) Eh:=by
  intro pins' σ' H' s' e s'' I' hcx;obtain⟨x,cls,dx,H2,rfl,I2,F2,q⟩:=gB (X:=X.inTry (X.pn++pins) _) rfl rfl I' hex hcx;have I3:Inv X pins σ' H2 s'':=ofT I2;have ap:∀{Et b},Apart (X.inTry (X.pn++pins) Et) pins' H2 b->Apart X pins H2 b:=λ{Et b} a=>⟨a.new,a.free,λp hp=>a.pin p (List.mem_append_left _ hp)⟩
  have F3:bL X pins H2 s''.heap x cls dx:=by
   obtain⟨oe,vs,T,oT,ts,e1,e2,e3,e4,e5,e6,e7,e8,e9,e10⟩:=F2.tr;exact⟨ap F2.me,oe,vs,T,oT,ts,e1,e2,e3,e4,e5,e6,e7,e8,e9,ap e10⟩
  obtain⟨oe,vs,_,_,_,e1,_,_,e4,_⟩:=id F3.tr;obtain⟨T,oT,tts,W,hT,hTd,aT⟩:=bL.flying I3 F3;have hfrm:=I.ok.frames;rw[hst]at hfrm W;refine jo (gz _ _) hfrm hfr W λh4 ⟨w41,w42,w43,w44⟩ u4=>?_
  refine e_ (s:={s'' with heap:=h4}) w41 w42 w43 w44 λh5 W5 u5=>?_
  rw[<-hst]at W5;obtain⟨I5,F5⟩:=bL.back I3 hex F3.me e1 e4 hT hTd aT W5 (u4.trans u5);obtain⟨oe5,vs5,T5,oT5,ts5,g1,g2,g3,g4,g5,g6,g7,g8,g9,g10⟩:=id F5.tr;obtain⟨hx1,hx2⟩:=h2 σ' cls dx H2 I3.len q;have LT:PySem.W.Looks (aj X.prog X.w) h5 (typeOf (.ref x)) cls:=by
   subst g2;exact(PySem.W.Looks.ld g1).andThen .now
  refine wpAny_handleBy_cons (codeAny_handlers_test (d_ (I5.hold x) hg hm ?_ hd)) (by intro z;cases z);refine PySem.W.exm_one (K:=X.K) I5.kIn LT hx1 _ _ _ _ (λ_ _ e=>e) ?_;refine codeAny_handlers_suite ?_;obtain⟨T6,oT6,ts6,⟨w61,w62,w63,w64⟩,hT6,hTd6,aT6⟩:=bL.flying I5 F5;refine e_ (s:={s'' with heap:=h5}) w61 w62 w63 w64 λh6 W6' u6=>?_
  obtain⟨I6,F6⟩:=bL.back I5 hex F5.me g1 g4 hT6 hTd6 aT6 W6' u6;refine bu (hs x pins _ _ _ _ (I6.hold x) hx2) (λf s9 r9=>?_) λ_ _ z=>aP z
  cases f with
  |ret u=>
   obtain⟨v,σ9,H9,I9,rv,q9⟩:=r9;exact⟨v,_,H9,I9.unhold I.ok,rv,q9⟩
  |next=>obtain⟨_,_,_,z⟩:=r9;exact aP z
  |brk=>obtain⟨_,_,_,z⟩:=r9;exact aP z
  |cont=>obtain⟨_,_,_,z⟩:=r9;exact aP z
 refine thn (hb _ _ hP [] s σ H _ (toT I) h1) λf s1 q=>?_
 cases f with
 |next=>obtain⟨σ1,H1,I1,q1⟩:=q;exact wpAny_execs_nil ⟨σ1,H1,ofT I1,q1⟩
 |brk=>obtain⟨σ1,H1,I1,q1⟩:=q;exact⟨σ1,H1,ofT I1,q1⟩
 |cont=>obtain⟨σ1,H1,I1,q1⟩:=q;exact⟨σ1,H1,ofT I1,q1⟩
 |ret u=>obtain⟨v,σ1,H1,I1,rv,q1⟩:=q;exact⟨v,σ1,H1,ofT I1,rv,q1⟩
section
variable{X:Cx}
end
section
variable{X:Cx}{tg:Expr}
end
end L2
namespace L2
open PySem PySem.Spec PySem.W PyProof.Rows
open PySem.Builtin PySem.Builtin.ObjectAttr
structure cj(K:Frag)(C fI:Addr)(fs:List Str):Prop where
 see:zD K C
 ob:∃Ap nm q N bs sn sub ab col dd k0 k1 k2 k3 k5,K.lookup C=some (excClassObj nm q C N bs (.ref Ap::cz) true sn sub ab col dd k0 k1 k2 k3 k5 "ValueError.__new__")/\excIn K Ap cz "ValueError.__new__" = true
 ini:findIn K (.ref C) "__init__" = some (some (.ref fI))
 sa:findIn K (.ref C) "__setattr__" = some (some (.builtin "object.__setattr__"))
 fld:∀f∈fs,findIn K (.ref C) f=some none
section
variable{prog:av}{w:au}{A:aw}{E:ae->af->Prop}{h:Heap}{g:Array GenState}{d:Drawn}{t:Nat}{os:OsState}{x C fI:Addr}{K:Frag}{fs:List Str}{f:Str}{mA:Str->Option ae}{v:ae}
theorem pT{tk:Tok}{Q:Fin->af->Prop}(Z:K.In h)(S:cj K C fI fs)(hf:f∈fs)(I:h.Inst x C mA)(hv:mA f=some v)(hh:handedOut v=pure v)(hq:Q (.done (.ret v)) ⟨h,g,d,t,os⟩) :
  ai (aj prog w) A (Builtin.«object.__getattribute__» ⟨[.ref x,.str f tk],[]⟩) Q E ⟨h,g,d,t,os⟩:=by
 obtain⟨o,hx,hc,hnc,hd⟩:=I;rcases hd with ⟨_,hmA⟩|⟨dx,hdx,hne,hns⟩
 ·rw[hmA f]at hv;cases hv
 obtain⟨Ap,nm,q,N,bs,sn,sub,ab,col,dd,k0,k1,k2,k3,k5,hC0,_⟩:=S.ob;have hC:=Z _ _ hC0;have L0:Looks (aj prog w) h (typeOf (.ref x)) (.ref C):=hc▸(Looks.ld hx).andThen .now;have L2:=looks_findIn (M:=aj prog w) Z (S.fld f hf);unfold Builtin.«object.__getattribute__»
 repeat (any_goals (first|assumption|with_reducible refine L0.at ?_|with_reducible refine ag (L0.at ?_)|with_reducible refine L2.at ?_|with_reducible refine ag (L2.at ?_)|wp_step))
 split
 ·rename_i c hcd
  exact absurd hcd (hnc c)
 unfold instanceDict
 repeat (first|(with_reducible refine wpAny_loadPart_at hx ?_;rw[hc])|with_reducible refine wpAny_loadPart_at hC ?_|wp_step)
 rw[hdx];refine ax ?_;refine wpAny_nsGet hns.ns ?_;rw[hv]
 repeat wp_step
 exact hq
theorem pB{tk:Tok}{fill expr:Bool}{Q:ae->af->Prop}(Z:K.In h)(S:cj K C fI fs)(hf:f∈fs)(I:h.Inst x C mA)(hv:mA f=some v)(hh:handedOut v=pure v)(hq:Q v ⟨h,g,d,t,os⟩) :
  ai (aj prog w) A (getAttrBy (.ref x) (.str f tk) fill expr) Q E ⟨h,g,d,t,os⟩:=by
 obtain⟨o,hx,hc,_⟩:=id I;have L0:Looks (aj prog w) h (typeOf (.ref x)) (.ref C):=hc▸(Looks.ld hx).andThen .now;have f3:=F.attr_ValueError.ga.bind (.ref x);have hx0:(expr&&onTheHeap (ae.builtin "BaseException.__getattribute__"))=false:=by cases expr<;>rfl
 have hx2:(ae.builtin "BaseException.__getattribute__" == ae.builtin "object.__getattribute__")=false:=by decide +kernel
 have hx1:(onTheHeap (aR C)&&ae.builtin "BaseException.__getattribute__" == ae.builtin "object.__getattribute__")=false:=by rw[hx2];rfl
 have L2:=looks_findIn (M:=aj prog w) Z S.see.ga;have L3:=looks_findIn (M:=aj prog w) Z S.see.gt
 repeat (any_goals (first|assumption|with_reducible refine L0.at ?_|with_reducible refine ag (L0.at ?_)|with_reducible refine L2.at ?_|with_reducible refine ag (L2.at ?_)|with_reducible refine L3.at ?_|with_reducible refine ag (L3.at ?_)|wp_step))
 refine codeAny_call_builtin F.attr_ValueError.ga.plain F.entry_bexc_ga (lB Z S.see L0 (pT Z S hf I hv hh ?_))
 repeat (any_goals (first|assumption|wp_step))
theorem vG{expr:Bool}{Q:ae->af->Prop}(Z:K.In h)(S:cj K C fI fs)(hf:f∈fs)(I:h.Inst x C mA)(hv:mA f=some v)(hh:handedOut v=pure v)(hq:Q v ⟨h,g,d,t+1,os⟩) :
  ai (aj prog w) A (getAttr (.ref x) f expr) Q E ⟨h,g,d,t,os⟩:=by
 unfold getAttr
 repeat (any_goals (first|assumption|with_reducible apply pB Z S hf I hv hh|wp_step))
theorem uj{tk:Tok}{Q:Fin->af->Prop}{ns:List Str}(Z:K.In h)(S:cj K C fI fs)(hf:f∈fs)(hxC:x≠C)(I:h.Inst x C mA)
  (hq:∀h' tk',h'.Inst x C (λy=>if y=f then some v else mA y)->(∀b o,b≠x->(∀o₀ dx,h.get? x=some o₀->o₀.dict=some dx->b≠dx)->h.get? b=some o->h'.get? b=some o) ->
   (∀o₀,h.get? x=some o₀->∃o₁,h'.get? x=some o₁/\o₁.cls=o₀.cls/\o₁.data=o₀.data/\o₁.slots=o₀.slots/\(∀dx,o₀.dict=some dx->o₁.dict=some dx)/\(o₀.dict=none->∃dx,o₁.dict=some dx/\h.get? dx=none))->Q (.done (.ret .none)) ⟨h',g,d,tk',os⟩)
  (hw:Within mA ns) (hsz:ns.length<=1000) :
  ai (aj prog w) A (Builtin.«object.__setattr__» ⟨[.ref x,.str f tk,v],[]⟩) Q E ⟨h,g,d,t,os⟩:=by
 obtain⟨o,hx,hc,hnc,hd⟩:=I;obtain⟨Ap,nm,q,N,bs,sn,sub,ab,col,dd,k0,k1,k2,k3,k5,hC0,_⟩:=S.ob;have hC:=Z _ _ hC0;have L0:Looks (aj prog w) h (typeOf (.ref x)) (.ref C):=hc▸(Looks.ld hx).andThen .now;have L2:=looks_findIn (M:=aj prog w) Z (S.fld f hf);have hpass:=PySem.F.store_ValueError.passes (.ref x);unfold Builtin.«object.__setattr__»
 repeat (first|rw[refuse_eq]|(rw[refuseLoop_ref,refuseLoop_ref,hpass])|(with_reducible refine wpAny_loadPart_at hx ?_;rw[hc])|with_reducible refine wpAny_mroOf_exc hC ?_|with_reducible refine L2.at ?_|with_reducible refine ag (L2.at ?_)|wp_step)
 rcases hd with ⟨hdn,hmA⟩|⟨dx,hdx,hne,hns⟩
 ·rw[hdn,if_neg (by simp[typeHasDict])];split
  ·rename_i hcd;cases hcd
  split
  ·rename_i c hcd
   exact absurd hcd (hnc c)
  have up:(h.push {cls:=.type "dict",data:=.dict #[]}).get? x=some o:=Heap.get?_push_of_some _ hx;have ne:x≠h.objs.size:=aS (aC hx);refine ag (wpAny_alloc' (ag (wpAny_update' up (ax ?_))));generalize hG:(h.push {cls:=.type "dict",data:=.dict #[]}).update x (λo=>{cls:=o.cls,dict:=some h.objs.size,data:=o.data,slots:=o.slots})=G;have dG:G.get? h.objs.size=some {cls:=.type "dict",data:=.dict #[]}:=by
   rw[<-hG];exact(Heap.get?_update_ne _ _ _ _ ne.symm).trans (Heap.get?_push_at rfl rfl)
  have nG:G.Ns h.objs.size (λ_=>none):=⟨_,#[],_,dG,rfl,λe he=>absurd he (by simp),λ_=>rfl⟩
  have xG:G.get? x=some {cls:=o.cls,dict:=some h.objs.size,data:=o.data,slots:=o.slots}:=by
   rw[<-hG];refine Heap.get?_update_self _ up ?_;have nf:=(Heap.get?_some_iff.mp hx).2;obtain⟨oc,od,odt,osl⟩:=o;cases odt<;>first|rfl|exact nf
  have oG:∀b ob,b≠x->h.get? b=some ob->G.get? b=some ob:=λb ob hb e=>by
   rw[<-hG];exact(Heap.get?_update_ne _ _ _ _ hb).trans (Heap.get?_push_of_some _ e)
  show ai _ _ (storeInDict h.objs.size (.str f tk) f v) _ _ _;unfold storeInDict newKeyGuard;refine ag (ax (ag (wpAny_nsSet1 (Heap.Ns1.of_empty nG) λh' hn' hs=>?_)));obtain⟨oD,esD,epD,hoD,hdD,hcD⟩:=hn'.count (Within.cons f v Within.nil);refine ag (wpAny_lookBehind hoD (by rw[hdD];exact pastItsLine_dict (aZ hcD (by rw[cq,List.length_nil,a0];lia))) ?_);have x':=(hs.2 x ne).trans xG
  wp_walk
  refine hq h' _ ⟨_,x',hc,hnc,.inr ⟨h.objs.size,rfl,ne.symm,?_⟩⟩ (λb ob hb _ e=>(hs.2 b (aS (aC e))).trans (oG b ob hb e)) λo₀ h₀=>?_
  ·obtain⟨o',es,ep,e1,e2,e3,eu,e4⟩:=hn';exact⟨o',es,ep,e1,e2,e3,eu,λy=>by rw[e4 y];by_cases hy:y=f<;>simp[hy,hmA]⟩
  ·obtain rfl:o=o₀:=bg (hx.symm.trans h₀);exact⟨_,x',rfl,rfl,rfl,(λdx e=>by rw[hdn]at e;cases e),λ_=>⟨_,rfl,Heap.get?_none_of_le (aF _)⟩⟩
 ·rw[hdx];refine ax ?_;show ai _ _ (storeInDict dx (.str f tk) f v) _ _ _;unfold storeInDict newKeyGuard;refine ag (ax (ag (wpAny_nsSet1 hns λh' hn' hs=>?_)));obtain⟨oD,esD,epD,hoD,hdD,hcD⟩:=hn'.count (Within.cons f v hw);refine ag (wpAny_lookBehind hoD (by rw[hdD];exact pastItsLine_dict (aZ hcD (by rw[cq,a0];lia))) ?_);have x':=(hs.2 x hne.symm).trans hx
  wp_walk
  exact hq h' _ ⟨o,x',hc,hnc,.inr ⟨dx,hdx,hne,hn'⟩⟩ (λb ob _ hb e=>(hs.2 b (hb o dx hx hdx)).trans e) λo₀ h₀=>by
   obtain rfl:o=o₀:=bg (hx.symm.trans h₀);exact⟨o,x',rfl,rfl,rfl,λ_ e=>e,λe=>by rw[hdx]at e;cases e⟩
theorem rz{M:Model}{o:Obj}{nameV:ae}{Q:Unit->af->Prop}(Z:K.In h)(S:cj K C fI fs)(hx:h.get? x=some o)(hc:o.cls=.ref C)(hq:Q () ⟨h,g,d,t,os⟩) :
  ai M A (checkBuiltinCall "object.__setattr__" ⟨[.ref x,nameV,v],[]⟩) Q E ⟨h,g,d,t,os⟩:=by
 have SF:=PySem.F.store_ValueError;have L0:Looks M h (typeOf (.ref x)) (.ref C):=hc▸(Looks.ld hx).andThen .now;have L1:=looks_mroIn (M:=M) Z S.see.mo;have ha:=SF.args (.ref x) nameV v;simp only[checkBuiltinCall,SF.kind,SF.split];refine ag ?_;unfold isInstance
 repeat (first|assumption|lk|wp_step)
theorem sj{Q:Unit->af->Prop}{ns:List Str}(Z:K.In h)(S:cj K C fI fs)(hf:f∈fs)(hxC:x≠C)(I:h.Inst x C mA)
  (hq:∀h' tk',h'.Inst x C (λy=>if y=f then some v else mA y)->(∀b o,b≠x->(∀o₀ dx,h.get? x=some o₀->o₀.dict=some dx->b≠dx)->h.get? b=some o->h'.get? b=some o) ->
   (∀o₀,h.get? x=some o₀->∃o₁,h'.get? x=some o₁/\o₁.cls=o₀.cls/\o₁.data=o₀.data/\o₁.slots=o₀.slots/\(∀dx,o₀.dict=some dx->o₁.dict=some dx)/\(o₀.dict=none->∃dx,o₁.dict=some dx/\h.get? dx=none))->Q () ⟨h',g,d,tk',os⟩)
  (hw:Within mA ns) (hsz:ns.length<=1000):ai (aj prog w) A (setAttr (.ref x) f v) Q E ⟨h,g,d,t,os⟩:=by
 obtain⟨o,hx,hc,_⟩:=id I;have L0:Looks (aj prog w) h (typeOf (.ref x)) (.ref C):=hc▸(Looks.ld hx).andThen .now;have L2:=looks_findIn (M:=aj prog w) Z S.sa;have SF:=PySem.F.store_ValueError;have f3:=SF.slot.bind (.ref x);unfold setAttr callSpecial? specialOf
 repeat (any_goals (first|assumption|with_reducible refine L0.at ?_|with_reducible refine ag (L0.at ?_)|with_reducible refine L2.at ?_|with_reducible refine ag (L2.at ?_)|wp_step))
 refine codeAny_call_builtin SF.slot.plain SF.entry (rz Z S hx hc (uj Z S hf hxC I (λh' tk' I' k z=>?_) hw hsz))
 repeat (any_goals (first|assumption|wp_step))
 exact hq h' tk' I' k z
end
end L2
namespace L2
open PySem PySem.Spec PySem.W PyProof.Rows
noncomputable def shp(self:Str):List Str->List Stmt->Bool
 | [],[]=>true
 |f::fs,.Assign [.Attribute (.Name s _) a _] (.Name b _) _::r=>s==self&&a==f&&b==f&&(f==("__debug__" : Str))==false&&shp self fs r
 |_,_=>false
noncomputable def zz:List (Str×ae)->(Str->Option ae)->Str->Option ae
 | [],m=>m
 | (f,v)::r,m=>zz r λy=>if y=f then some v else m y
theorem ji{y:Str}:∀{l:List (Str×ae)}{m:Str->Option ae},(∀v,(y,v)∉l)->zz l m y=m y
 | [],_,_=>rfl
 | (f,v)::r,m,h=>by
  unfold zz;rw[ji λw hw=>h w (aI _ hw)];have:y≠f:=by rintro rfl;exact h v aL
  simp[this]
theorem lC{y:Str}{v:ae}:∀{l:List (Str×ae)}{m:Str->Option ae},(l.map (·.1)).Nodup->(y,v)∈l->zz l m y=some v
 | [],_,_,h=>by cases h
 | (f,w)::r,m,nd,h=>by
  unfold zz;simp only[bt,List.nodup_cons]at nd;rcases aG.mp h with z|z
  ·cases z;rw[ji λu hu=>nd.1 (bj.mpr ⟨_,hu,rfl⟩)];simp
  ·exact lC nd.2 z
structure Mid(K:Frag)(h hh:Heap)(L:Addr)(m:Str->Option ae)(e C:Addr)(mA:Str->Option ae)(ns:List Str):Prop where
 nl:hh.Ns L m
 inst:hh.Inst e C mA
 keep:∀b o,b≠e->h.get? b=some o->hh.get? b=some o
 ob:∀o,h.get? e=some o->∃o1,hh.get? e=some o1/\o1.cls=o.cls/\o1.data=o.data
 dx:∀o1 dx,hh.get? e=some o1->o1.dict=some dx->h.get? dx=none/\dx≠L
 wi:PySem.Within mA ns
 ne:L≠e
theorem Mid.put{K:Frag}{h hh h':Heap}{L e C:Addr}{m mA:Str->Option ae}{ns:List Str}{f:Str}{v:ae}(M:Mid K h hh L m e C mA ns)
  (I':h'.Inst e C (λy=>if y=f then some v else mA y)) (k:∀b o,b≠e->(∀o₀ dx,hh.get? e=some o₀->o₀.dict=some dx->b≠dx)->hh.get? b=some o->h'.get? b=some o)
  (z:∀o₀,hh.get? e=some o₀->∃o₁,h'.get? e=some o₁/\o₁.cls=o₀.cls/\o₁.data=o₀.data/\o₁.slots=o₀.slots/\(∀dx,o₀.dict=some dx->o₁.dict=some dx)/\(o₀.dict=none->∃dx,o₁.dict=some dx/\hh.get? dx=none)) :
  Mid K h h' L m e C (λy=>if y=f then some v else mA y) (f::ns):=by
 obtain⟨oL,es,ep,hL,r⟩:=id M.nl;obtain⟨oe,he,_⟩:=id M.inst;refine⟨⟨oL,es,ep,k L oL M.ne (λo₀ dx e1 e2 q=>(M.dx o₀ dx e1 e2).2 q.symm) hL,r⟩,I',λb o hb q=>k b o hb (λo₀ dx e1 e2 y=>by rw[y,(M.dx o₀ dx e1 e2).1]at q;cases q) (M.keep b o hb q),λo q=>?_,λo1 dx q1 q2=>?_,M.wi.cons f v,M.ne⟩
 ·obtain⟨o1,a,b,c⟩:=M.ob o q;obtain⟨o2,a2,b2,c2,_⟩:=z o1 a;exact⟨o2,a2,b2.trans b,c2.trans c⟩
 ·obtain⟨o2,a2,b2,c2,d2,e2,f2⟩:=z oe he;rw[a2]at q1;cases q1;cases q:oe.dict with
  |some dy=>
   have:=e2 dy q;rw[q2]at this;cases this;exact M.dx oe dx he q
  |none=>
   obtain⟨dy,g1,g2⟩:=f2 q;rw[q2]at g1;cases g1;refine⟨?_,λy=>by rw[y,hL]at g2;cases g2⟩;cases y:h.get? dx with
   |none=>rfl
   |some o=>
    by_cases hb:dx=e
    ·rw[hb,he]at g2;cases g2
    ·rw[M.keep dx o hb y]at g2;cases g2
section
variable{prog:av}{w:au}{A:aw}{E:ae->af->Prop}{K:Frag}{C fI e:Addr}{fs:List Str}{env:Env}{self:Str}{h:Heap}{m:Str->Option ae}
theorem mZ(Z:K.In h)(S:cj K C fI fs)(hK:K.lookup e=none)(hk:env.scope.kind=.function)(hs:env.kindOf self=some .local)(hms:m self=some (.ref e))(hds:(self==("__debug__" : Str))=false){Q:Flow->af->Prop}{g:Array GenState}{d:Drawn}{os:OsState} :
  ∀(l:List (Str×ae)) (body:List Stmt) (mA:Str->Option ae) (ns:List Str) (hh:Heap) (tk:Nat),shp self (l.map (·.1)) body=true->(∀y∈l,y.1∈fs/\env.kindOf y.1=some .local/\m y.1=some y.2)->Mid K h hh env.locals m e C mA ns->ns.length+l.length<=1000 ->
   (∀h' tk' ns',Mid K h h' env.locals m e C (zz l mA) ns'->Q .next ⟨h',g,d,tk',os⟩)->ai (aj prog w) A (execs body env) Q E ⟨hh,g,d,tk,os⟩
 | [],[],mA,ns,hh,tk,_,_,M,_,hq=>wpAny_execs_nil (hq hh tk ns M)
 | [],_::_,_,_,_,_,h1,_,_,_,_=>by cases h1
 |_::_,[],_,_,_,_,h1,_,_,_,_=>by cases h1
 | (f,v)::l,st::r,mA,ns,hh,tk,h1,h2,M,hz,hq=>by
  simp only[bt]at h1;unfold shp at h1;split at h1
  ·cases (show False by rename_i q _;cases q)
  ·rename_i f' fs' s p1 a p2 b p3 p4 r' e1 e2
   cases e1;cases e2;simp only[aJ,beq_iff_eq]at h1;obtain⟨⟨⟨⟨q1,q2⟩,q3⟩,hdb⟩,h1⟩:=h1;have q1:=q1.symm;have q2:=q2.symm;have q3:=q3.symm;subst q1 q2 q3;obtain⟨g1,g2,g3⟩:=h2 _ aL;have Zh:K.In hh:=λa o q=>M.keep a o (λy=>by rw[y,hK]at q;cases q) (Z a o q)
   have neC:e≠C:=λy=>by
    obtain⟨_,_,_,_,_,_,_,_,_,_,_,_,_,_,_,hC,_⟩:=S.ob;rw[<-y,hK]at hC;cases hC
   refine wpAny_execs_cons (plainObj_wpAny_Assign_Attribute ?_);refine wpAny_Name (wpAny_loadName_local hk g2 M.nl g3 (wpAny_Name (wpAny_loadName_local hk hs M.nl hms ?_) hds)) hdb;refine sj Zh S g1 neC M.inst (λh' tk' I' k z=>?_) M.wi (by simp only[cq]at hz;lia);exact mZ Z S hK hk hs hms hds l r _ _ h' tk' h1 (λy hy=>h2 y (aI _ hy)) (M.put I' k z) (by simp only[cq]at hz ⊢;lia) hq
  ·cases h1
end
structure dD(K:Frag)(fI:Addr)(fs:List Str):Prop where
 ex:∃self nm qual params body scope kV dc pm an cd ct od sl,K.lookup fI=some ⟨.type "function",od,.func (fnOf nm qual params body scope .none kV dc pm an cd ct),sl⟩/\codeIn K cd qual=true/\(scope.kind=.function/\scope.isCoroutine=false/\scope.isGenerator=false/\∀f∈self::fs,scope.names.lookup f=some .local) /\
  shp self fs body=true/\(self::fs).Nodup/\(self==("__debug__" : Str))=false/\∀us:List ae,us.length=fs.length+1->bindArgs (fnOf nm qual params body scope .none kV dc pm an cd ct) ⟨us,[]⟩=pure ((self::fs).zip us)
section
variable{prog:av}{w:au}{A:aw}{E:ae->af->Prop}{K:Frag}{C fI e:Addr}{fs:List Str}{h:Heap}{g:Array GenState}{d:Drawn}{t:Nat}{os:OsState}{vs:List ae}{o:Obj}{Q:ae->af->Prop}
theorem lK{fs:List Str}{vs:List ae}(hl:vs.length=fs.length):(fs.zip vs).map (·.1)=fs:=by
 rw[List.map_fst_zip (by lia)]
theorem pG(Z:K.In h)(lim:h.NoLimit)(S:cj K C fI fs)(F:dD K fI fs)(hz:fs.length<=100)(hK:K.lookup e=none)(room:A.depth<recursionLimit)(he:h.get? e=some o)(hc:o.cls=.ref C)(hd:o.dict=none)(hf:∃ws,o.data=.fields ws)(hl:vs.length=fs.length)
  (hq:∀h' tk,h'.Inst e C (zz (fs.zip vs) λ_=>none)->(∀b ob,b≠e->h.get? b=some ob->h'.get? b=some ob)->(∃o1,h'.get? e=some o1/\o1.cls=o.cls/\o1.data=o.data/\∀dx,o1.dict=some dx->h.get? dx=none)->Q .none ⟨h',g,d,tk,os⟩) :
  ai (aj prog w) A (call (.ref fI) (.ref e::vs)) Q E ⟨h,g,d,t,os⟩:=by
 obtain⟨self,nm,qual,params,body,scope,kV,dc,pm,an,cd,ct,od,sl,lk,hcd,⟨k1,k2,k3,k4⟩,hsh,nd,hds,hb⟩:=F.ex;obtain⟨ws,hf⟩:=hf;refine wpAny_call ?_;refine codeAny_call_cells (fd:=fnOf nm qual params body scope .none kV dc pm an cd ct) (body:=body) (vals:=.ref e::vs) (binds:=(self::fs).zip (.ref e::vs)) room (Z _ _ lk) rfl lim (codeRec_of Z hcd) rfl (hb _ (by simp[hl])) rfl (λy hy=>.inl (k4 _ (List.of_mem_zip hy).1)) (λs1 x=>?_) k2 k3 k1;generalize hE:callEnvC (fnOf nm qual params body scope .none kV dc pm an cd ct) (af.heap ⟨h,g,d,t,os⟩).objs.size fI=env at x ⊢;have kk:∀y,env.kindOf y=scope.names.lookup y:=λy=>by rw[<-hE];rfl
 have hk:env.scope.kind=.function:=by rw[<-hE];exact k1
 obtain⟨⟨h1,tk1,rfl⟩,nsL,kp,fr⟩:=x.toInCall;have kp:∀b ob,h.get? b=some ob->h1.get? b=some ob:=kp;have fr:h.objs.size<=env.locals:=fr;have ne:env.locals≠e:=λq=>bh _ (aY (q▸aC he:env.locals<h.objs.size) fr)
 have get:∀i f v,(self::fs)[i]? = some f->(aR e::vs)[i]? = some v->bindL env.kindOf ((self::fs).zip (.ref e::vs)) (λ_=>none) f=some v:=λi f v e1 e2=>
  jn nd e1 e2 ((kk f).trans (k4 f (List.mem_of_getElem? e1)))
 have mz:((fs.zip vs).map (·.1))=fs:=lK hl;have M0:Mid K h1 h1 env.locals (bindL env.kindOf ((self::fs).zip (.ref e::vs)) λ_=>none) e C (λ_=>none) []:=
  ⟨nsL,⟨o,kp _ _ he,hc,(λc q=>by rw[hf]at q;cases q),.inl ⟨hd,λ_=>rfl⟩⟩,λ_ _ _ q=>q,λo q=>⟨o,q,rfl,rfl⟩,(λo1 dx q1 q2=>by rw[kp _ _ he]at q1;cases q1;rw[hd]at q2;cases q2),PySem.Within.nil,ne⟩
 have Z1:K.In h1:=λa ob q=>kp _ _ (Z a ob q)
 refine bu (mZ (E:=λ_ _=>False) (Q:=λfl s'=>fl=.next/\Q .none s') Z1 S hK hk ((kk self).trans (k4 self aL)) (get 0 self _ rfl rfl) hds (fs.zip vs) body (λ_=>none) [] h1 tk1 (by rw[mz];exact hsh) (λy hy=>?_) M0 ?_ λh' tk' ns' M=>⟨rfl,?_⟩) (λfl s' ⟨q1,q2⟩=>by subst q1;exact q2) λ_ _ z=>z.elim
 ·obtain⟨f,v⟩:=y;have hm:=List.of_mem_zip hy;refine⟨hm.1,(kk f).trans (k4 f (aI _ hm.1)),?_⟩;obtain⟨i,hi,hg⟩:=List.getElem_of_mem hy;have hi':i<fs.length/\i<vs.length:=by rw[List.length_zip]at hi;lia
  have e1:fs[i]? = some f:=by rw[List.getElem?_eq_getElem hi'.1];simpa using congrArg Prod.fst hg
  have e2:vs[i]? = some v:=by rw[List.getElem?_eq_getElem hi'.2];simpa using congrArg Prod.snd hg
  exact get (i+1) f v (by simpa using e1) (by simpa using e2)
 ·simp;lia
 ·refine hq h' tk' M.inst (λb ob n q=>M.keep b ob n (kp _ _ q)) ?_;obtain⟨o1,a,b,c⟩:=M.ob o (kp _ _ he);refine⟨o1,a,b,c,λdx q=>?_⟩;have:=(M.dx o1 dx a q).1;cases y:h.get? dx with
  |none=>rfl
  |some ob=>rw[kp _ _ y]at this;cases this
theorem n_(Z:K.In h){Ap:Addr}(q:excIn K Ap cz "ValueError.__new__" = true):OwnTail h cz (.ref Ap::cz):=by
 obtain⟨bm,N,nm,q,bs,hdct,sn,sub,ab,col,dd,k0,k1,k2,k3,k5,mN,hO,hN,hni,T⟩:=kJ Z q;unfold excClassObj at hO;exact .own hO hN hni .base
theorem xH(Z:K.In h)(lim:h.NoLimit)(S:cj K C fI fs)(F:dD K fI fs)(hz:fs.length<=100)(room:∀a,(A.under (.builtin "type.__call__" a)).depth<recursionLimit)(hl:vs.length=fs.length)
  (hq:∀h' e tk oe tt,(∀b ob,h.get? b=some ob->h'.get? b=some ob)->h.get? e=none->h'.get? e=some oe->oe.cls=.ref C->oe.data=.fields #[.ref tt,.none,.none,.none,.bool false,.none]->(∀dx,oe.dict=some dx->h.get? dx=none/\dx≠e) ->
   h'.Inst e C (zz (fs.zip vs) λ_=>none)->Q (.ref e) ⟨h',g,d,tk,os⟩) :
  ai (aj prog w) A (call (.ref C) vs) Q E ⟨h,g,d,t,os⟩:=by
 obtain⟨Ap,nm,q,N,bs,sn,sub,ab,col,dd,k0,k1,k2,k3,k5,hC0,hAp⟩:=S.ob;have hC:=Z _ _ hC0;have T:=n_ Z hAp;have FB:=PySem.F.excBase_ValueError;have f1:=tc_lookup;have f2:=tc_bind (.ref C);have hT:(⟨h,g,d,t,os⟩:af).TypeIs (.ref C) "type":=⟨_,hC,rfl⟩
 have hrest:vs.length<=sizeLine:=by rw[hl,a0];lia
 refine wpAny_call (codeAny_of_tree ?_);show ai _ _ (callAny (.ref C) _) _ _ _
 repeat (any_goals (first|assumption|with_reducible refine wpAny_loadPart_at hC ?_|wp_step))
 refine⟨rfl,?_⟩;refine codeAny_call_builtin_at (Code.quiet_builtin _ (by decide +kernel)) entry_typeCall (wpAny_check_type_call_sub hC ?_)
 repeat (first|with_reducible refine wpAny_loadPart_at hC ?_|with_reducible refine wpAny_madeBy_exc hC ?_|wp_step)
 refine codeAny_call_builtin_code (Code.quiet_builtin _ FB.quiet) (wpAny_check_new_subT FB T hC ?_);refine codeAny_exc_new_subT FB T hC ?_ hrest;show ai _ _ _ _ _ (⟨(h.push {cls:=.type "tuple",data:=.seq vs.toArray}).push {cls:=.ref C,data:=.fields #[.ref h.objs.size,.none,.none,.none,.bool false,.none]},g,d,t,os⟩:af);generalize hG:(h.push {cls:=.type "tuple",data:=.seq vs.toArray}).push {cls:=.ref C,data:=.fields #[.ref h.objs.size,.none,.none,.none,.bool false,.none]}=G;have kG:∀b ob,h.get? b=some ob->G.get? b=some ob:=λb ob e=>by rw[<-hG];exact Heap.get?_push_of_some _ (Heap.get?_push_of_some _ e)
 have eG:G.get? (h.objs.size+1)=some {cls:=.ref C,data:=.fields #[.ref h.objs.size,.none,.none,.none,.bool false,.none]}:=by rw[<-hG];heap_get
 have nE:h.get? (h.objs.size+1)=none:=Heap.get?_none_of_le (Nat.le_succ _);have CG:=kG _ _ hC;have ZG:K.In G:=λa ob q=>kG _ _ (Z a ob q)
 have hcC:(aR C::(aR Ap::cz)).contains (.ref C)=true:=by simp
 unfold isInstance
 repeat (first|with_reducible refine wpAny_loadPart_at eG ?_|(with_reducible refine wpAny_isSubtype_exc CG ?_;rw[hcC])|wp_step)
 show ai _ _ (typeLookup (.ref C) _) _ _ _;refine(looks_findIn ZG S.ini).here ?_;refine bO (ag ?_);unfold bindSpecial;obtain⟨self,nmI,qual,params,body,scope,kV,dc,pm,an,cd,ct,od,sl,lk,_⟩:=id F.ex;refine ag (wpAny_typeOf (T:="function") ⟨_,ZG _ _ lk,rfl⟩ ?_);rw[if_pos (by decide)];refine ax (ag (bu (pG (E:=E) (Q:=λr s'=>r=.none/\Q (.ref (h.objs.size+1)) s') ZG (lim.keeps kG) S F hz ?_ (room _) eG rfl rfl ⟨_,rfl⟩ hl λh' tk I k1 k2=>⟨rfl,?_⟩) (λr s' hr=>?_) λ_ _ x=>x))
 ·cases q:K.lookup (h.objs.size+1)with
  |none=>rfl
  |some ob=>rw[Z _ _ q]at nE;cases nE
 ·obtain⟨o1,a1,a2,a3,a4⟩:=k2;refine hq h' _ tk o1 h.objs.size (λb ob q=>k1 b ob (λy=>by rw[y,nE]at q;cases q) (kG _ _ q)) nE a1 a2 a3 (λdx y=>⟨?_,λz=>?_⟩) I
  ·have:=a4 dx y;cases z:h.get? dx with
   |none=>rfl
   |some ob=>rw[kG _ _ z]at this;cases this
  ·have:=a4 dx y;rw[z,eG]at this;cases this
 ·obtain⟨rfl,hQ⟩:=hr
  wp_walk
  exact hQ
end
theorem iq(b:Bool):(if b=true then 1 else 0:Nat)<=1:=by cases b<;>decide
theorem pz(A:aw)(a:Args):(A.under (.builtin "type.__call__" a)).depth<=A.depth+3:=by
 have h1:(Code.builtin "type.__call__" a).isCaller=false:=by
  unfold Code.isCaller;split<;>first|rfl|simp_all
 show A.depth+(Code.builtin "type.__call__" a).weight<=_;have h2:(Code.builtin "type.__call__" a).frames<=1:=by unfold Code.frames;exact iq _
 have h3:=iq (Code.builtin "type.__call__" a).isCreation;have h4:=iq (Code.builtin "type.__call__" a).isGuard;unfold Code.weight;rw[h1,if_neg (by decide:¬ (false=true))];lia
section
variable{M:Model}{A:aw}{E:ae->af->Prop}{env:Env}{nm q:Str}{C N:Addr}{bs bm:List ae}{hdct:Bool}{sn:List Str}{sub:List ae}{ab:Bool}{col:Option Bool}{dd:Option Addr}{k0 k1 k2 k3 k5:Option ae}{newId:String}
theorem yt{s:af}{x:Sem ae}{Q:Flow->af->Prop}(hbase:bm.contains (.type "BaseException")=true)(hh:A.handled=none)
  (h:ai M A x (λv s₁=>∃e oe t,v=.ref e/\s₁.heap.get? C=some (excClassObj nm q C N bs bm hdct sn sub ab col dd k0 k1 k2 k3 k5 newId)/\s₁.heap.get? e=some oe/\oe.cls=.ref C/\oe.data=.fields #[.ref t,.none,.none,.none,.bool false,.none]/\E (.ref e) s₁) E s) :
  ai M A (raiseStmt env (some x) none) Q E s:=by
 have hcB:(aR C::bm).contains (.type "BaseException")=true:=by rw[List.contains_cons,hbase,Bool.or_true]
 unfold raiseStmt;refine ag (bu h (λv s₁ h₁=>?_) λ_ _ x=>x);obtain⟨e,oe,t,rfl,hC,he,hc,hd,hE⟩:=h₁;obtain⟨hp,g,d,tk,os⟩:=s₁;obtain⟨oc,od,oda,osl⟩:=oe;dsimp only at hc hd;subst hc hd
 repeat (first|with_reducible refine wpAny_loadPart_at he ?_|with_reducible refine wpAny_loadPart_at hC ?_|(with_reducible refine wpAny_isSubtype_exc hC ?_;rw[hcB])|wp_step)
 exact wpAny_raiseNew_none hh hE
end
section
variable{X:Cx}{C fI:Addr}{fs:List Str}{x:Str}{E:XK}{t:TA}{e:Expr}{es:List Expr}{np cpos pos:Pos}
noncomputable def ow(C:Addr)(fs:List Str)(E:XK)(t:TA):TS:=λ_ σ H=>t σ H λvs H1=>vs.length=fs.length/\∀dx,H1 dx=none->E (.ref C) (some dx) (upd H1 dx (.xd (fs.zip vs)))
theorem tq{fs:List Str}{f:Str}:∀{vs:List V}{us:List ae} (nd:fs.Nodup),Vals vs us->fC ((fs.zip vs).lookup f) (zz (fs.zip us) (λ_=>none) f):=by
 induction fs with
 |nil=>intro vs us _ _;exact trivial
 |cons a r ih=>
  intro vs us nd rv;cases rv with
  |nil=>exact trivial
  |cons r1 r2=>
   rename_i v u vs us
   simp only[List.zip_cons_cons,aX,zz];obtain⟨n1,n2⟩:=List.nodup_cons.mp nd;by_cases h:f=a
   ·subst h;rw[beq_self_eq_true,ji λw hw=>n1 (List.of_mem_zip hw).1];show fC (some v) (if f=f then some u else none);rw[if_pos rfl];exact r1
   ·have:(f==a)=false:=by simpa using h
    rw[this];have e0:∀(l:List (Str×ae)) (m m':Str->Option ae),m f=m' f->zz l m f=zz l m' f:=by
     intro l
     induction l with
     |nil=>intro m m' q;exact q
     |cons y l ih2=>
      intro m m' q;unfold zz;exact ih2 _ _ (by split<;>first|rfl|exact q)
    rw[e0 _ _ (λ_=>none) (by simp[h])];exact ih n2 r2
theorem wd(hex:X.ex=[])(hc:X.calm=true)(hT:Throws X E)(hC:cj X.K C fI fs)(hF:dD X.K fI fs)(hz:fs.length<=100)(hne:fs≠[])(room:∀a,(X.A.under (.builtin "type.__call__" a)).depth<recursionLimit)(hg:Gl X x)(hm:X.mg x=some (.ref C))(ha:PA X (e::es) t)(hd:(x==("__debug__" : Str))=false:=by decide)
  (he:aH (e::es) X.env=(false,eval e X.env)::aH es X.env:=by rfl) (hpl:(backTo cpos (aH es X.env)).any (·.1)=false:=by rfl) :
  PS X (.Raise (some (.Call (.Name x np) (e::es) [] cpos)) none pos) (ow C fs E t):=by
 intro pins s σ H D I h;obtain⟨Ap,nm,q,N,bs,sn,sub,ab,col,dd,k0,k1,k2,k3,k5,hC0,hAp⟩:=hC.ob;have hplain:(backTo cpos (aH (e::es) X.env)).any (·.1)=false:=by
  rw[he];show (false||(backTo cpos (aH es X.env)).any (·.1))=false;rw[hpl];rfl
 have hbb:(aR Ap::cz).contains (.type "BaseException")=true:=by rw[List.contains_cons];rfl
 rw[arm_exec_Raise];simp only[evalOpt,Option.map];refine ag (wpAny_standAt (yt (C:=C) (nm:=nm) (q:=q) (N:=N) (bs:=bs) (bm:=.ref Ap::cz) (hdct:=true) (sn:=sn) (sub:=sub) (ab:=ab) (col:=col) (dd:=dd) (k0:=k0) (k1:=k1) (k2:=k2) (k3:=k3) (k5:=k5) (newId:="ValueError.__new__") hbb (I.ok.hd hc) (ag (bu (wpAny_Call_ofName (d_ I hg hm ?_ hd)) (λv s₃ h₃=>ag (wpAny_standAt (ax h₃))) λ_ _ x=>x))));unfold callWith;have ha':=ha cpos pins s σ H _ I h;refine ag (bO ?_);rw[he]at ha' ⊢;refine Calls.evalArgs_plain (thn ha' λus s1 ⟨vs,H1,I1,r,z,q1⟩=>ag (wpAny_standAt ?_));have hpl':(backTo cpos ((false,eval e X.env)::aH es X.env)).any (·.1)=false:=by rw[<-he];exact hplain
 have Z1:=I1.kIn;have C1:=Z1 _ _ hC0;obtain⟨hp,g,d,tk,os⟩:=s1;simp only[hpl'];refine ag (wpAny_keeperOf_exc C1 ?_);refine ag (xH (h:=hp) Z1 (I1.ok.mod.nolimit.keeps λb o e=>I1.bk b o e) hC hF hz room (by rw[List.nil_append,<-r.length];exact z) λh' x' tk' oe tt k1 k2 k3 k4 k5 k6 k7=>ag (bO (wpAny_point (ax ?_))));rw[List.nil_append]at k7;obtain⟨self,_,_,_,_,_,_,_,_,_,_,_,_,_,_,_,_,_,nd0,_⟩:=hF.ex;have nd:=(List.nodup_cons.mp nd0).2;have Ca:=k1 _ _ C1;obtain⟨o',hx',hc',hnc,hdd⟩:=k7;have eo:o'=oe:=bg (hx'.symm.trans k3);subst eo;rcases hdd with ⟨_,hn⟩|⟨dx,hdx,hne2,hns⟩
 ·exfalso;cases fs with
  |nil=>exact hne rfl
  |cons f rf=>
   have hl:=r.length;cases us with
   |nil=>rw[z]at hl;cases hl
   |cons u us'=>
    have:zz ((f::rf).zip (u::us')) (λ_=>none) f=some u:=lC (by rw[lK (by rw[<-hl];exact z)];exact nd) (by simp);rw[hn f]at this;cases this
 ·obtain⟨d1,d2⟩:=k6 dx hdx;have I2:Inv X pins σ H1 ⟨h',g,d,tk',os⟩:=(I1.more hex k1).tok tk';have aD:=I1.apart hex d1;have aE:=I1.apart hex k2;have nl:dx≠X.env.locals:=λy=>by
   obtain⟨m,⟨oL,es,ep,e1,_⟩,_⟩:=I1.loc;rw[<-y]at e1;have e1:hp.get? dx=some oL:=e1;rw[d1]at e1;cases e1
  have nc:∀y c,X.env.cells.lookup y=some c->c≠dx:=λy c e0 q=>by
   obtain⟨v,o,e1,_⟩:=I1.cell y c e0;rw[q]at e1;have e1:hp.get? dx=some o:=e1;rw[d1]at e1;cases e1
  have I3:=I2.track (o:=.xd (fs.zip vs)) hex aD nl nc ⟨_,hns,λf=>tq nd r⟩;exact⟨x',o',tt,rfl,Ca,k3,k4,k5,hT pins σ _ _ x' (.ref C) (some dx) I3 ⟨⟨aE.new,by rw[qg (Ne.symm d2)];exact aE.free,aE.pin⟩,o',_,k3,k4,hdx,k5,rfl⟩ (q1 dx aD.free)⟩
noncomputable def rX(K:Frag)(f:Str)(t:TE):TE:=λσ H Q=>t σ H λv H1=>∃x C dx fI fs kvs i,v=.ref x/\H1 x=some (dJ x (.ref C) (some dx))/\H1 dx=some (.xd kvs)/\cj K C fI fs/\f∈fs/\kvs.lookup f=some (.int i)/\dx≠x/\Q (.int i) H1
theorem wz{a:Expr}{f:Str}{ta:TE}{pos:Pos}(hb:attributeBase a f X.env (eval a X.env)=eval a X.env)(ha:PE X a ta):PE X (.Attribute a f pos) (rX X.K f ta):=by
 intro pins s σ H Q I h;refine rW hb (thn (ha pins s σ H _ I h) λu s1 ⟨v,H1,I1,rv,x,C,dx,fI,fs,kvs,i,ev,e1,e2,S,hf,hl,ne,q⟩=>?_);subst ev;obtain rfl:u=aR x:=rv;obtain⟨⟨o,vs,x1,x2,x3,x4⟩,_⟩:=(show zy X.prog X.w H1 s1.heap x (dJ x (.ref C) (some dx))from I1.hok x _ e1)
 obtain⟨mA,n1,n2⟩:=(show zy X.prog X.w H1 s1.heap dx (.xd kvs)from I1.hok dx _ e2)
 have n3:=n2 f;rw[hl]at n3;obtain⟨hp,g,d,tk,os⟩:=s1;cases q3:mA f with
 |none=>rw[q3]at n3;exact n3.elim
 |some u=>
  rw[q3]at n3;obtain⟨t,rfl⟩:∃t,u=.int i t:=n3;exact vG (h:=hp) I1.kIn S hf ⟨o,x1,x2,(λc y=>by rw[x4]at y;cases y),.inr ⟨dx,x3,ne,n1⟩⟩ q3 rfl ⟨.int i,H1,I1.tok _,⟨t,rfl⟩,q⟩
end
end L2
namespace L2
open PySem PySem.Spec PyProof.Rows
section
variable{X:Cx}
theorem lR{A:aw}{s:af}{bs:List Bool}{prog:av}:∀y∈(bs.map bp).toArray,SeqAt.EqAt A s y (.bool true) (y==.bool true):=by
 intro y hy;have hy':y∈bs.map ae.bool:=by simpa using hy
 obtain⟨b,_,rfl⟩:=bj.mp hy';have:=SeqAt.EqAt.bool_bool (A:=A) (s:=s) b true;have e2:(bp b==bp true)=(b==true):=by cases b<;>decide
 rw[e2];exact this
noncomputable def rn(K:aq):V->List V->Hp->VK->Prop:=λx vs H Q=>∃(l:Addr) (bs:List Bool),x=.ref l/\vs=[.bl true]/\SqL K H l (bs.map V.bl)/\Q (.int ((bs.countP id:Nat):Int)) H
theorem pk:MtM X "list.count" (rn X.K):=by
 intro pins s σ H x vs v us Q I rx rv h;obtain⟨l,bs,rfl,rfl,hH,q⟩:=h;cases rx;obtain⟨u,rfl,ru⟩:=rv.one;cases ru;obtain⟨its,r,⟨o,n,e,hc,hd,hs⟩,hz⟩:=I.list hH;have ei:=iD (A:=X.A) r;subst ei;obtain⟨oc,od,oo,os⟩:=o;simp only at hc hd hs;subst hc hd hs;refine call_meets F.slot_list_count ⟨_,e,rfl⟩ F.entry_list_count (F.args_list_count_2 _ _) (SeqAt.list_countAt l _ n none os (.bool true) (λy=>y==.bool true)) ⟨e,lR (prog:=X.prog),?_⟩;refine⟨.int ((bs.countP id:Nat):Int),H,I.tok _,⟨s.toks,?_⟩,q⟩;have:(List.map bp bs).countP (λy=>y==bp true)=bs.countP id:=by
  rw[List.countP_map]
  congr 1
  funext b;cases b<;>rfl
 rw[show ((List.map bp bs).toArray.toList)=List.map bp bs from rfl,this]
noncomputable def AL(K:aq):V->List V->Hp->VK->Prop:=λx vs H Q=>∃(l:Addr) (bs:List Bool) (j:Nat),x=.ref l/\vs=[.bl true]/\SqL K H l (bs.map V.bl)/\bs.findIdx? id=some j/\Q (.int (j:Int)) H
theorem wM:MtM X "list.index" (AL X.K):=by
 intro pins s σ H x vs v us Q I rx rv h;obtain⟨l,bs,j,rfl,rfl,hH,hj,q⟩:=h;cases rx;obtain⟨u,rfl,ru⟩:=rv.one;cases ru;obtain⟨its,r,⟨o,n,e,hc,hd,hs⟩,hz⟩:=I.list hH;have ei:=iD (A:=X.A) r;subst ei;obtain⟨oc,od,oo,os⟩:=o;simp only at hc hd hs;subst hc hd hs;obtain⟨hjl,h1,h2⟩:=List.findIdx?_eq_some_iff_getElem.mp hj;have hz':bs.length<=sizeLine:=by simpa using hz
 refine call_meets F.slot_list_index ⟨_,e,rfl⟩ F.entry_list_index (F.args_list_index_2 _ _) (SeqAt.list_indexAt l _ n none os (.bool true) (λy=>y==.bool true) j (by simpa using hjl) (by rw[a0]at hz';lia) ?_ ?_) ⟨e,lR (prog:=X.prog),?_⟩
 ·have:bs[j]=true:=h1;simp[this]
 ·intro m hm hmj;have hm':m<bs.length:=by simpa using hm
  have:bs[m]=false:=by simpa using h2 m hmj
  simp[this]
 ·exact⟨.int (j:Int),H,I.tok _,⟨s.toks,rfl⟩,q⟩
end
section
variable{X:Cx}
end
section
variable{prog:av}{w:au}{A:aw}{E:ae->af->Prop}{s:af}{l:Addr}{xs:Array (Int×Tok)}
end
section
variable{X:Cx}
end
noncomputable def fM(kX:Str->Option aM)(NX NY:List Str)(cap:List (Option Nat))(scope:aN):Bool:=
 (scope.kind==.function)&&(scope.names.all λy=>(y.2 != .cell||scope.names.lookup y.1==some .cell)&&(y.2 != .local||scope.names.lookup y.1==some .local)&&(y.2 != .free||kX y.1==some .cell||kX y.1==some .free)) &&
 (cap.length==NY.length)&&(aV cap.length).all λi=>match cap[i]? with
  |some (some j)=>(match NY[i]?,NX[j]? with
   |some x,some y=>x==y&&scope.names.lookup x==some .free&&(kX x==some .cell||kX x==some .free)
   |_,_=>false)
  |_=>true
theorem cN.of{X:Cx}{NY:List Str}{cap:List (Option Nat)}{scope:aN}(h:fM X.env.kindOf X.N NY cap scope=true):cN X NY cap scope:=by
 unfold fM at h;simp only[aJ,List.all_eq_true,beq_iff_eq]at h;obtain⟨⟨⟨h1,h2⟩,h3⟩,h4⟩:=h;refine⟨h1,λy hy e=>?_,λy hy e=>?_,λy hy e=>?_,h3,λi j hc=>?_⟩
 ·have:=(h2 y hy).1.1;rw[e]at this
  simpa using this
 ·have:=(h2 y hy).1.2;rw[e]at this
  simpa using this
 ·have:=(h2 y hy).2;rw[e]at this
  simpa using this
 ·have hi:i<cap.length:=(List.getElem?_eq_some_iff.mp hc).1;have:=h4 i (List.mem_range.mpr hi);rw[hc]at this;dsimp only at this;split at this
  ·rename_i x y e1 e2
   simp only[aJ,beq_iff_eq,cx]at this;obtain⟨⟨e3,e4⟩,e5⟩:=this;subst e3;exact⟨x,e1,e2,e4,e5⟩
  ·cases this
end L2
namespace WB
open PySem PySem.Spec PyProof.Rows L2
section
variable{P:av}{w:au}{K:aq}{mg:Str->Option ae}{base:Heap}{f g:Addr}{fd gd:bw}
theorem _root_.L2.Fun.ok1{x qual:Str}{st:Stmt}{f:Addr}{fd:bw}{N ps:List Str}{k:Nat}{sp:Sp}(F:Fun K x qual st f fd)(S:eB N ps (qk st))(len:∀vs H Q E,sp vs H Q E->vs.length=ps.length)
  (hbody:∀(cdv:ae) (A:aw) (outer:List Env) (s:af) (H:Hp) (vs:List V) (Q:VK) (E:XK),bP k (A.deeper (envOfC qual (qk st) s.heap.objs.size f cdv))->sp vs H Q E ->
   ∃t,PSs (cU (CX1 P w) P w K mg base N qual (qk st) f cdv A outer s H E) (zB st) t/\t {nx:=λ_ H'=>Q .non H',rt:=Q} (start N vs) H):dO P w K mg base (CX1 P w) (k+1) f fd ps sp:=by
 obtain⟨oc,od,kV,doc,pm,an,cdv,ct,osl,rfl,lk,hcd⟩:=F.ex;exact oV lk hcd S len λA outer s H vs Q E hr hsp=>hbody cdv A outer s H vs Q E hr hsp
end
noncomputable def uI(H:Hp)(ps:List Addr)(ks:List (Int×Int)):Prop:=ps.length=ks.length/\∀(i:Nat) p k,ps[i]? = some p->ks[i]? = some k->H p=some (.tup [.int k.1,.int k.2])
structure Built(H0:Hp)(acc:Addr)(ks:List (Int×Int))(H:Hp):Prop where
 ex:∃ps:List Addr,H acc=some (.lst (ps.map V.ref))/\uI H ps ks
 same:∀b o,b≠acc->H0 b=some o->H b=some o
end WB
set_option genSizeOf false
set_option genSizeOfSpec false
namespace EV
open PySem L2
structure Xc where
 nm:Str
 fs:List (Str×Int)
noncomputable instance:Coe Str Xc:=⟨λs=>⟨s,[]⟩⟩
inductive D where
 |non|bl (b:Bool)|int (i:Int)|str (x:Str)|tup (xs:List D)|lst (xs:List D)|fn (x:Str)|exn (c:Xc)|dic
inductive R(α:Type) where
 |ok (a:α)|ex (c:Xc)|no
noncomputable def R.bind{α β:Type}:R α->(α->R β)->R β
 | .ok a,f=>f a
 | .ex c,_=>.ex c
 | .no,_=>.no
@[simp] theorem R.bind_ok{α β:Type}(a:α)(f:α->R β):(R.ok a).bind f=f a:=rfl
@[simp] theorem R.bind_ex{α β:Type}(c:Xc)(f:α->R β):(R.ex c:R α).bind f=.ex c:=rfl
@[simp] theorem R.bind_no{α β:Type}(f:α->R β):(R.no:R α).bind f=.no:=rfl
inductive O2 where
 |add|sub|mul|fdiv|mod|pow|shl|shr|band|bor|bxor
 deriving DecidableEq
inductive C2 where
 |eq|ne|lt|le|gt|ge|isin|notin|is|isnot
 deriving DecidableEq
inductive B1 where
 |len|tuple|list|sorted|all|any|sum|min|max|abs|int|bool
 deriving DecidableEq
inductive Cl where
 |ty (n:String)|ex (x:Str)
 deriving DecidableEq
inductive Tg where
 |nm (i:Nat)|tp (is:List Nat)
mutual
inductive E where
 |var (i:Nat)|own (i:Nat)|con (d:D)|glb (x:Str)|fnv (x:Str)
 |op (o:O2) (a b:E)|neg (a:E)|inv (a:E)|not (a:E)|and (a b:E)|or (a b:E)
 |cmp (c:C2) (a b:E)|cmp2 (c c':C2) (a b d:E)|cmp3 (c c' c'':C2) (a b d e:E)
 |ite (t:T) (a b:E)
 |tup (es:Es)|lst (es:Es)
 |ix (a b:E)|sl (a:E) (lo hi:OE)
 |call (f:Str) (es:Es)|callE (f:E) (es:Es)
 |bi (b:B1) (es:Es)
 |rtup (a:It)|rlst (a:It)
 |isi (a:E) (c:Cl)
 |comp (it:It) (cap:List (Option Nat)) (tg:Tg) (t:T) (elt:E)
 |mth (ix:Bool) (a:E)
 |cnt (a b:E)
 |mxk (mx:Bool) (a:E)
 |dic
 |callo (f:Str) (es:Es)
 |comp2 (it:It) (cap:List (Option Nat)) (tg:Tg) (it2:It) (tg2:Tg) (t:T) (elt:E)
 |fst2 (t0:Str) (a:E) (t1:Str) (b:E) (t2:Str)
 |sset (ln:Bool) (a:E)
 |rev (a:E)
 |fld (a:E) (f:Str)
inductive OE where
 |none|some (e:E)
inductive Es where
 |nil|cons (e:E) (es:Es)
inductive It where
 |seq (e:E)|rng (a:E)|rng2 (a b:E)|enum (e:E)|zip (a b:E)|rng3 (a b k:E)
inductive T where
 |yes|val (e:E)|cmp (c:C2) (a b:E)|cmp2 (c c':C2) (a b d:E)|and (a b:T)|or (a b:T)|not (a:T)
end
noncomputable def SZ:Nat:=1000000
noncomputable def small(j:Int):Bool:=decide (-(2^64)<j)&&decide (j<2^64)
noncomputable def opI:O2->Int->Int->R D
 | .add,i,j=>.ok (.int (i+j))
 | .sub,i,j=>.ok (.int (i-j))
 | .mul,i,j=>if small i||small j then .ok (.int (i * j))else .no
 | .fdiv,i,j=>if 0<j/\j<1000000000000000000000000000000 then .ok (.int (i/j))else .no
 | .mod,i,j=>if 0<j then .ok (.int (i%j))else .no
 | .pow,i,j=>if 0<=j/\j<=1000000/\i.natAbs<2^64 then .ok (.int (i^j.toNat))else .no
 | .shl,i,j=>if 0<=j/\j<=1000000/\i.natAbs<2^64 then .ok (.int (i * 2^j.toNat))else .no
 | .shr,i,j=>if 0<=j then .ok (.int (i/2^j.toNat))else .no
 | .band,i,j=>.ok (.int (Builtin.bitAnd i j))
 | .bor,i,j=>.ok (.int (Builtin.bitOr i j))
 | .bxor,i,j=>.ok (.int (Builtin.bitXor i j))
noncomputable def kI:D->Bool
 | .lst _=>true
 |_=>false
noncomputable def op2(o:O2):D->D->R D
 | .int i,.int j=>opI o i j
 | .tup xs,.tup ys=>if o=.add/\xs.length+ys.length<=SZ then .ok (.tup (xs++ys))else .no
 | .lst xs,.lst ys=>if o=.add/\xs.length+ys.length<=SZ then .ok (.lst (xs++ys))else .no
 |_,_=>.no
mutual
noncomputable def D.plain:D->Bool
 | .non=>true
 | .bl _=>true
 | .int _=>true
 | .str x=>PyData.strOk x
 | .tup xs=>plainAll xs
 | .lst xs=>plainAll xs
 | .fn _=>false
 | .exn _=>false
 | .dic=>false
noncomputable def plainAll:List D->Bool
 | []=>true
 |x::xs=>x.plain&&plainAll xs
end
mutual
noncomputable def D.deep:D->Nat
 | .tup xs=>fb xs+1
 | .lst xs=>fb xs+1
 |_=>0
noncomputable def fb:List D->Nat
 | []=>0
 |x::xs=>max x.deep (fb xs)
end
mutual
noncomputable def D.eqv:D->D->Bool
 | .non,.non=>true
 | .bl a,.bl b=>a==b
 | .bl a,.int j=>(if a then 1 else 0)==j
 | .int i,.bl b=>i==(if b then 1 else 0)
 | .int i,.int j=>i==j
 | .str x,.str y=>x==y
 | .tup xs,.tup ys=>eqvAll xs ys
 | .lst xs,.lst ys=>eqvAll xs ys
 |_,_=>false
noncomputable def eqvAll:List D->List D->Bool
 | [],[]=>true
 |x::xs,y::ys=>x.eqv y&&eqvAll xs ys
 |_,_=>false
end
noncomputable def D.asks(d:D):Bool:=d.plain&&decide (d.deep<=20)
mutual
noncomputable def D.noL:D->Bool
 | .non=>true
 | .bl _=>true
 | .int _=>true
 | .str _=>true
 | .tup xs=>m7 xs
 |_=>false
noncomputable def m7:List D->Bool
 | []=>true
 |x::xs=>x.noL&&m7 xs
end
noncomputable def ints?:List D->Option (List Int)
 | []=>some []
 | .int i::r=>(ints? r).map (i :: ·)
 |_=>none
noncomputable def bools?:List D->Option (List Bool)
 | []=>some []
 | .bl i::r=>(bools? r).map (i :: ·)
 |_=>none
noncomputable def pairs?:List D->Option (List (Int×Int))
 | []=>some []
 | .tup [.int i,.int j]::r=>(pairs? r).map ((i,j) :: ·)
 |_=>none
noncomputable def seq?:D->Option (List D)
 | .tup xs=>some xs
 | .lst xs=>some xs
 |_=>none
noncomputable def dr:List Int->List Int->Bool
 | [],[]=>false
 | [],_::_=>true
 |_::_,[]=>false
 |a::r,b::t=>if a=b then dr r t else decide (a<b)
noncomputable def gy(c:C2)(i j:Int):Option Bool:=
 match c with
 | .lt=>some (decide (i<j))
 | .le=>some (decide (i<=j))
 | .gt=>some (decide (j<i))
 | .ge=>some (decide (j<=i))
 | .eq=>some (decide (i=j))
 | .ne=>some (!decide (i=j))
 |_=>none
noncomputable def inD(x:D)(xs:List D):Bool:=xs.any λy=>y.eqv x
noncomputable def ef:D->Bool
 | .non=>true
 |_=>false
noncomputable def isB(n:Bool):D->D->R Bool
 | .bl a,.bl b=>.ok (n != (a==b))
 |_,_=>.no
noncomputable def ql:C2->D->D->R Bool
 | .is,a,b=>if ef b then .ok (ef a)else isB false a b
 | .isnot,a,b=>if ef b then .ok (!ef a)else isB true a b
 | .isin,a,b=>match seq? b with
  |some xs=>if a.asks&&xs.all D.asks then .ok (inD a xs)else .no
  |none=>.no
 | .notin,a,b=>match seq? b with
  |some xs=>if a.asks&&xs.all D.asks then .ok (!inD a xs)else .no
  |none=>.no
 | .eq,a,b=>if a.asks&&b.asks then .ok (a.eqv b)else .no
 | .ne,a,b=>if a.asks&&b.asks then .ok (!a.eqv b)else .no
 | .lt,.tup xs,.tup ys=>match ints? xs,ints? ys with
  |some ns,some ms=>.ok (dr ns ms)
  |_,_=>.no
 |c,.int i,.int j=>match gy c i j with
  |some b=>.ok b
  |none=>.no
 |_,_,_=>.no
noncomputable def truth:D->R Bool
 | .non=>.ok false
 | .bl b=>.ok b
 | .int i=>.ok (i != 0)
 | .tup xs=>.ok (!xs.isEmpty)
 | .lst xs=>.ok (!xs.isEmpty)
 |_=>.no
noncomputable def ixD:D->D->R D
 | .tup xs,.int i=>match atI xs i with|some d=>.ok d|none=>.no
 | .lst xs,.int i=>match atI xs i with|some d=>.ok d|none=>.no
 |_,_=>.no
noncomputable def cutD(xs:List D)(lo hi:Option Int):List D:=(xs.drop (HT.sIx xs.length 0 lo)).take (HT.sIx xs.length xs.length hi-HT.sIx xs.length 0 lo)
noncomputable def slD:D->Option Int->Option Int->R D
 | .tup xs,lo,hi=>.ok (.tup (cutD xs lo hi))
 | .lst xs,lo,hi=>.ok (.lst (cutD xs lo hi))
 |_,_,_=>.no
noncomputable def insI(i:Int):List Int->List Int
 | []=>[i]
 |j::r=>if i<=j then i::j::r else j::insI i r
noncomputable def sortI:List Int->List Int
 | []=>[]
 |i::r=>insI i (sortI r)
noncomputable def dR(p:Int×Int):List (Int×Int)->List (Int×Int)
 | []=>[p]
 |q::r=>if ltP q p then q::dR p r else p::q::r
noncomputable def zl:List (Int×Int)->List (Int×Int)
 | []=>[]
 |p::r=>dR p (zl r)
noncomputable def pairD(p:Int×Int):D:=.tup [.int p.1,.int p.2]
noncomputable def cG(d:D)(k:List D->R D):R D:=match d with | .lst xs=>k xs|_=>.no
noncomputable def iiR(d e:D)(k:Int->Int->R D):R D:=match d,e with | .int i,.int j=>k i j|_,_=>.no
noncomputable def b5{α β:Type}(o:Option α)(k:α->R β):R β:=match o with|some a=>k a|none=>.no
noncomputable def dk(xs:List D):R D:=.no
noncomputable def b11(b:B1)(d:D):R D:=match b with
 | .len=>b5 (seq? d) λxs=>.ok (.int xs.length)
 | .tuple=>b5 (seq? d) λxs=>.ok (.tup xs)
 | .list=>b5 (seq? d) λxs=>.ok (.lst xs)
 | .all=>cG d λxs=>b5 (bools? xs) λbs=>.ok (.bl (bs.all id))
 | .any=>cG d λxs=>b5 (bools? xs) λbs=>.ok (.bl (bs.any id))
 | .sorted=>match d with
  | .tup xs=>if xs.length<64 then b5 (ints? xs) λns=>.ok (.lst ((sortI ns).map D.int))else .no
  |d=>cG d λxs=>if xs.length<64 then (match ints? xs with
   |some ns=>.ok (.lst ((sortI ns).map D.int))
   |none=>match pairs? xs with
    |some ps=>.ok (.lst ((zl ps).map pairD))
    |none=>dk xs)else dk xs
 | .abs=>.no
 | .int=>.no
 | .bool=>.no
 | .min=>.no
 | .max=>.no
 | .sum=>.no
noncomputable def b12(b:B1)(d e:D):R D:=match b with
 | .min=>iiR d e λi j=>.ok (.int (if j<i then j else i))
 | .max=>iiR d e λi j=>.ok (.int (if j>i then j else i))
 |_=>.no
noncomputable def fX(ix:Bool)(x:D):R D:=cG x λxs=>b5 (bools? xs) λbs=>if ix then b5 (bs.findIdx? id) λj=>.ok (.int (j:Int))else .ok (.int ((bs.countP id:Nat):Int))
noncomputable def mI(ln:Bool)(d:D):R D:=.no
noncomputable def b1(b:B1):List D->R D
 | [d]=>b11 b d
 | [d,e]=>b12 b d e
 |_=>.no
noncomputable def tyD:D->Option String
 | .non=>some "NoneType"
 | .bl _=>some "bool"
 | .int _=>some "int"
 | .str _=>some "str"
 | .tup _=>some "tuple"
 | .lst _=>some "list"
 | .dic=>some "dict"
 |_=>none
noncomputable def zC(lo:Int)(n:Nat):List D:=(aV n).map λ(i:Nat)=>.int (lo+(i:Int))
noncomputable def cQ:Nat->List D->List D
 |_,[]=>[]
 |k,x::r=>.tup [.int k,x]::cQ (k+1) r
noncomputable def zW:List D->List D->List D
 |x::xs,y::ys=>.tup [x,y]::zW xs ys
 |_,_=>[]
noncomputable def zh(j:Int):Bool:=decide (-1000000<=j)&&decide (j<=1000000)
abbrev Env:=List (Option D)
structure W where
 call:Str->List D->R D
 glb:Str->Option D
 sub:Str->Cl->Option Bool
 cat:Str->Str->Bool
 fld:Str->Option (List Str)
noncomputable def fj(w:W)(f:Str):D->R D
 | .exn k=>match w.fld k.nm with
  |some fs=>if fs.contains f then (match k.fs.lookup f with|some i=>.ok (.int i)|none=>.no)else .no
  |none=>.no
 |_=>.no
noncomputable def zM(w:W)(x:D)(c:Cl):R D:=match tyD x,c with
 |some t,.ty n=>if n = "ValueError" then .no else .ok (.bl (ey t n))
 |none,c=>match x with
  | .exn k=>match w.sub k.nm c with|some b=>.ok (.bl b)|none=>.no
  |_=>.no
 |_,_=>.no
noncomputable def bW(τ:Env)(i:Nat):R D:=match τ[i]? with
 |some (some d)=>.ok d
 |_=>.no
noncomputable def setAll:List Nat->List D->Env->R Env
 | [],[],τ=>.ok τ
 |i::is,d::ds,τ=>setAll is ds (τ.set i (some d))
 |_,_,_=>.no
noncomputable def store:Tg->D->Env->R Env
 | .nm i,d,τ=>.ok (τ.set i (some d))
 | .tp is,.tup ds,τ=>if ds.length=is.length then setAll is ds τ else .no
 |_,_,_=>.no
noncomputable def cP(cap:List (Option Nat))(τ:Env):Env:=cap.map λo=>o.bind λj=>(τ[j]?).join
noncomputable def noEx{α:Type}:R α->R α
 | .ok a=>.ok a
 |_=>.no
noncomputable def zK(body:D->Env->R (Env×List D)):List D->Env->List D->R (List D)
 | [],_,acc=>.ok acc
 |x::r,τ,acc=>(body x τ).bind λp=>zK body r p.1 (acc++p.2)
mutual
noncomputable def evE(w:W):E->Env->R D
 | .var i,τ=>bW τ i
 | .own i,τ=>bW τ i
 | .con d,_=>.ok d
 | .glb x,_=>match w.glb x with|some d=>.ok d|none=>.no
 | .fnv x,_=>.no
 | .op o a b,τ=>(evE w a τ).bind λx=>(evE w b τ).bind λy=>op2 o x y
 | .neg a,τ=>(evE w a τ).bind λx=>match x with | .int i=>.ok (.int (-i))|_=>.no
 | .inv a,_=>.no
 | .not a,τ=>(evE w a τ).bind λx=>match x with | .bl b=>.ok (.bl (!b))|_=>.no
 | .and a b,τ=>(evE w a τ).bind λx=>match x with | .bl true=>evE w b τ | .bl false=>.ok (.bl false)|_=>.no
 | .or a b,τ=>(evE w a τ).bind λx=>match x with | .bl true=>.ok (.bl true) | .bl false=>evE w b τ|_=>.no
 | .cmp c a b,τ=>(evE w a τ).bind λx=>(evE w b τ).bind λy=>(ql c x y).bind λr=>.ok (.bl r)
 | .cmp2 c c' a b d,τ=>(evE w a τ).bind λx=>(evE w b τ).bind λy=>(ql c x y).bind λr=>if r then (evE w d τ).bind λz=>(ql c' y z).bind λr'=>.ok (.bl r')else .ok (.bl false)
 | .cmp3 c c' c'' a b d e,τ=>(evE w a τ).bind λx=>(evE w b τ).bind λy=>(ql c x y).bind λr=>if r then (evE w d τ).bind λz=>(ql c' y z).bind λr'=>if r' then (evE w e τ).bind λu=>(ql c'' z u).bind λr''=>.ok (.bl r'')else .ok (.bl false)else .ok (.bl false)
 | .ite t a b,τ=>(evT w t τ).bind λr=>if r then evE w a τ else evE w b τ
 | .tup es,τ=>(zo w es τ).bind λds=>.ok (.tup ds)
 | .lst es,τ=>(zo w es τ).bind λds=>.ok (.lst ds)
 | .ix a b,τ=>(evE w a τ).bind λx=>(evE w b τ).bind λy=>ixD x y
 | .sl a lo hi,τ=>(evE w a τ).bind λx=>(evO w lo τ).bind λl=>(evO w hi τ).bind λh=>slD x l h
 | .call f es,τ=>(zo w es τ).bind λds=>w.call f ds
 | .callE f es,_=>.no
 | .bi b es,τ=>(zo w es τ).bind λds=>b1 b ds
 | .rtup a,_=>.no
 | .rlst a,_=>.no
 | .isi a c,τ=>(evE w a τ).bind λx=>zM w x c
 | .comp it cap tg t elt,τ=>(evI w it τ).bind λds=>if SZ<ds.length then .no else (zK (λx σ=>noEx ((store tg x σ).bind λσ'=>(evT w t σ').bind λr=>if r then (evE w elt σ').bind λd=>.ok (σ',[d])else .ok (σ',[]))) ds (cP cap τ) []).bind λout=>.ok (.lst out)
 | .mth ix a,τ=>(evE w a τ).bind λx=>fX ix x
 | .cnt a b,_=>.no
 | .mxk mx a,_=>.no
 | .dic,_=>.ok .dic
 | .callo f es,_=>.no
 | .comp2 it cap tg it2 tg2 t elt,_=>.no
 | .fst2 t0 a t1 b t2,_=>.no
 | .sset ln a,τ=>(evE w a τ).bind (mI ln)
 | .rev a,_=>.no
 | .fld a f,τ=>(evE w a τ).bind (fj w f)
noncomputable def evO(w:W):OE->Env->R (Option Int)
 | .none,_=>.ok none
 | .some e,τ=>(evE w e τ).bind λx=>match x with | .int i=>.ok (some i)|_=>.no
noncomputable def zo(w:W):Es->Env->R (List D)
 | .nil,_=>.ok []
 | .cons e es,τ=>(evE w e τ).bind λd=>(zo w es τ).bind λds=>.ok (d::ds)
noncomputable def evI(w:W):It->Env->R (List D)
 | .seq e,τ=>(evE w e τ).bind λx=>match seq? x with|some xs=>.ok xs|none=>.no
 | .rng a,τ=>(evE w a τ).bind λx=>match x with | .int j=>if zh j then .ok (zC 0 j.toNat)else .no|_=>.no
 | .rng2 a b,τ=>(evE w a τ).bind λx=>(evE w b τ).bind λy=>match x,y with | .int i,.int j=>if zh i&&zh j then .ok (zC i (j-i).toNat)else .no|_,_=>.no
 | .enum e,τ=>(evE w e τ).bind λx=>match x with | .lst xs=>.ok (cQ 0 xs)|_=>.no
 | .zip a b,τ=>(evE w a τ).bind λx=>(evE w b τ).bind λy=>match x,y with
  | .tup xs,.tup ys=>if xs.length=ys.length then .ok (zW xs ys)else .no
  | .lst xs,.lst ys=>if xs.length=ys.length then .ok (zW xs ys)else .no
  |_,_=>.no
 | .rng3 a b k,_=>.no
noncomputable def evT(w:W):T->Env->R Bool
 | .yes,_=>.ok true
 | .val e,τ=>(evE w e τ).bind λx=>truth x
 | .cmp c a b,τ=>(evE w a τ).bind λx=>(evE w b τ).bind λy=>ql c x y
 | .cmp2 c c' a b d,τ=>(evE w a τ).bind λx=>(evE w b τ).bind λy=>(ql c x y).bind λr=>if r then (evE w d τ).bind λz=>ql c' y z else .ok false
 | .and a b,τ=>(evT w a τ).bind λr=>if r then evT w b τ else .ok false
 | .or a b,τ=>(evT w a τ).bind λr=>if r then .ok true else evT w b τ
 | .not a,τ=>(evT w a τ).bind λr=>.ok (!r)
end
theorem qX:∀{w i τ},@Eq (R D) (evE w (.var i) τ) (bW τ i):=rfl
theorem zb:∀{w i τ},@Eq (R D) (evE w (.own i) τ) (bW τ i):=rfl
theorem qY:∀{w d τ},@Eq (R D) (evE w (.con d) τ) (.ok d):=rfl
theorem qU:∀{w x τ},@Eq (R D) (evE w (.glb x) τ) (match w.glb x with|some d=>.ok d|none=>.no):=rfl
theorem qV:∀{w x τ},@Eq (R D) (evE w (.fnv x) τ) (.no):=rfl
theorem qW:∀{w o a b τ},@Eq (R D) (evE w (.op o a b) τ) ((evE w a τ).bind λx=>(evE w b τ).bind λy=>op2 o x y):=rfl
theorem za:∀{w a τ},@Eq (R D) (evE w (.neg a) τ) ((evE w a τ).bind λx=>match x with | .int i=>.ok (.int (-i))|_=>.no):=rfl
theorem zc:∀{w a τ},@Eq (R D) (evE w (.inv a) τ) (.no):=rfl
theorem qZ:∀{w a τ},@Eq (R D) (evE w (.not a) τ) ((evE w a τ).bind λx=>match x with | .bl b=>.ok (.bl (!b))|_=>.no):=rfl
theorem qw:∀{w a b τ},@Eq (R D) (evE w (.and a b) τ) ((evE w a τ).bind λx=>match x with | .bl true=>evE w b τ | .bl false=>.ok (.bl false)|_=>.no):=rfl
theorem qD:∀{w a b τ},@Eq (R D) (evE w (.or a b) τ) ((evE w a τ).bind λx=>match x with | .bl true=>.ok (.bl true) | .bl false=>evE w b τ|_=>.no):=rfl
theorem qH:∀{w c a b τ},@Eq (R D) (evE w (.cmp c a b) τ) ((evE w a τ).bind λx=>(evE w b τ).bind λy=>(ql c x y).bind λr=>.ok (.bl r)):=rfl
theorem qB:∀{w c c' a b d τ},@Eq (R D) (evE w (.cmp2 c c' a b d) τ) ((evE w a τ).bind λx=>(evE w b τ).bind λy=>(ql c x y).bind λr=>if r then (evE w d τ).bind λz=>(ql c' y z).bind λr'=>.ok (.bl r')else .ok (.bl false)):=rfl
theorem qE:∀{w c c' c'' a b d e τ},@Eq (R D) (evE w (.cmp3 c c' c'' a b d e) τ) ((evE w a τ).bind λx=>(evE w b τ).bind λy=>(ql c x y).bind λr=>if r then (evE w d τ).bind λz=>(ql c' y z).bind λr'=>if r' then (evE w e τ).bind λu=>(ql c'' z u).bind λr''=>.ok (.bl r'')else .ok (.bl false)else .ok (.bl false)):=rfl
theorem qu:∀{w t a b τ},@Eq (R D) (evE w (.ite t a b) τ) ((evT w t τ).bind λr=>if r then evE w a τ else evE w b τ):=rfl
theorem qA:∀{w es τ},@Eq (R D) (evE w (.tup es) τ) ((zo w es τ).bind λds=>.ok (.tup ds)):=rfl
theorem qC:∀{w es τ},@Eq (R D) (evE w (.lst es) τ) ((zo w es τ).bind λds=>.ok (.lst ds)):=rfl
theorem qq:∀{w a b τ},@Eq (R D) (evE w (.ix a b) τ) ((evE w a τ).bind λx=>(evE w b τ).bind λy=>ixD x y):=rfl
theorem qx:∀{w a lo hi τ},@Eq (R D) (evE w (.sl a lo hi) τ) ((evE w a τ).bind λx=>(evO w lo τ).bind λl=>(evO w hi τ).bind λh=>slD x l h):=rfl
theorem qz:∀{w f es τ},@Eq (R D) (evE w (.call f es) τ) ((zo w es τ).bind λds=>w.call f ds):=rfl
theorem qR:∀{w f es τ},@Eq (R D) (evE w (.callE f es) τ) (.no):=rfl
theorem qs:∀{w b es τ},@Eq (R D) (evE w (.bi b es) τ) ((zo w es τ).bind λds=>b1 b ds):=rfl
theorem qF:∀{w a τ},@Eq (R D) (evE w (.rtup a) τ) (.no):=rfl
theorem qQ:∀{w a τ},@Eq (R D) (evE w (.rlst a) τ) (.no):=rfl
theorem qG:∀{w a c τ},@Eq (R D) (evE w (.isi a c) τ) ((evE w a τ).bind λx=>zM w x c):=rfl
theorem qr:∀{w it cap tg t elt τ},@Eq (R D) (evE w (.comp it cap tg t elt) τ) ((evI w it τ).bind λds=>if SZ<ds.length then .no else (zK (λx σ=>noEx ((store tg x σ).bind λσ'=>(evT w t σ').bind λr=>if r then (evE w elt σ').bind λd=>.ok (σ',[d])else .ok (σ',[]))) ds (cP cap τ) []).bind λout=>.ok (.lst out)):=rfl
theorem qP:∀{w ix a τ},@Eq (R D) (evE w (.mth ix a) τ) ((evE w a τ).bind λx=>fX ix x):=rfl
theorem qJ:∀{w a b τ},@Eq (R D) (evE w (.cnt a b) τ) (.no):=rfl
theorem qI:∀{w mx a τ},@Eq (R D) (evE w (.mxk mx a) τ) (.no):=rfl
theorem qy:∀{w τ},@Eq (R D) (evE w (.dic) τ) (.ok .dic):=rfl
theorem qM:∀{w f es τ},@Eq (R D) (evE w (.callo f es) τ) (.no):=rfl
theorem qO:∀{w it cap tg it2 tg2 t elt τ},@Eq (R D) (evE w (.comp2 it cap tg it2 tg2 t elt) τ) (.no):=rfl
theorem qN:∀{w t0 a t1 b t2 τ},@Eq (R D) (evE w (.fst2 t0 a t1 b t2) τ) (.no):=rfl
theorem qS:∀{w ln a τ},@Eq (R D) (evE w (.sset ln a) τ) ((evE w a τ).bind (mI ln)):=rfl
theorem qL:∀{w a τ},@Eq (R D) (evE w (.rev a) τ) (.no):=rfl
theorem qK:∀{w a f τ},@Eq (R D) (evE w (.fld a f) τ) ((evE w a τ).bind (fj w f)):=rfl
theorem dE:∀{w τ},@Eq (R Bool) (evT w (.yes) τ) (.ok true):=rfl
theorem dF:∀{w e τ},@Eq (R Bool) (evT w (.val e) τ) ((evE w e τ).bind λx=>truth x):=rfl
theorem dU:∀{w c a b τ},@Eq (R Bool) (evT w (.cmp c a b) τ) ((evE w a τ).bind λx=>(evE w b τ).bind λy=>ql c x y):=rfl
theorem dM:∀{w c c' a b d τ},@Eq (R Bool) (evT w (.cmp2 c c' a b d) τ) ((evE w a τ).bind λx=>(evE w b τ).bind λy=>(ql c x y).bind λr=>if r then (evE w d τ).bind λz=>ql c' y z else .ok false):=rfl
theorem dP:∀{w a b τ},@Eq (R Bool) (evT w (.and a b) τ) ((evT w a τ).bind λr=>if r then evT w b τ else .ok false):=rfl
theorem dQ:∀{w a b τ},@Eq (R Bool) (evT w (.or a b) τ) ((evT w a τ).bind λr=>if r then .ok true else evT w b τ):=rfl
theorem dH:∀{w a τ},@Eq (R Bool) (evT w (.not a) τ) ((evT w a τ).bind λr=>.ok (!r)):=rfl
mutual
inductive S where
 |set (tg:Tg) (e:E)
 |app (i:Nat) (e:E)
 |seti (i:Nat) (k e:E)
 |exp (e:E)
 |ret (e:E)|retN
 |ite (t:T) (a b:Ss)
 |for (tg:Tg) (it:It) (b:Ss)
 |while (t:T) (b:Ss)
 |raise (c:Str) (es:Es)
 |try (b:Ss) (c:Str) (i:Option Nat) (h:Ss)
 |ins (i:Nat) (k e:E)
 |pass|brk|cnt|unk
 |par (i j:Nat) (a b:E)
 |par3 (i j k:Nat) (a b c:E)
 |raisF (c:Str) (es:Es)
inductive Ss where
 |nil|cons (s:S) (r:Ss)
end
inductive O where
 |nx (τ:Env)|rt (d:D)|bk (τ:Env)|ct (τ:Env)|ex (c:Xc)|no
noncomputable def R.out{α:Type}:R α->(α->O)->O
 | .ok a,f=>f a
 | .ex c,_=>.ex c
 | .no,_=>.no
@[simp] theorem R.out_ok{α:Type}(a:α)(f:α->O):(R.ok a).out f=f a:=rfl
@[simp] theorem R.out_ex{α:Type}(c:Xc)(f:α->O):(R.ex c:R α).out f=.ex c:=rfl
@[simp] theorem R.out_no{α:Type}(f:α->O):(R.no:R α).out f=.no:=rfl
noncomputable def cf(tg:Tg)(body:Env->O):List D->Env->O
 | [],τ=>.nx τ
 |x::r,τ=>(store tg x τ).out λτ'=>match body τ' with
  | .nx σ=>cf tg body r σ
  | .ct σ=>cf tg body r σ
  | .bk σ=>.nx σ
  |o=>o
noncomputable def O.noEx:O->O
 | .ex _=>.no
 |o=>o
noncomputable def O.rtOnly:O->O
 | .rt d=>.rt d
 |_=>.no
noncomputable def gQ(fs:List Str)(c:Str)(ds:List D):O:=match ints? ds with
 |some ns=>if ns.length=fs.length then .ex ⟨c,fs.zip ns⟩else .no
 |none=>.no
noncomputable def cB(τ:Env)(i:Option Nat)(k:Xc):Env:=match i with
 |none=>τ.map λ_=>none
 |some i=>(τ.map λ_=>none).set i (some (.exn k))
mutual
noncomputable def evS(w:W):S->Env->O
 | .set tg e,τ=>(evE w e τ).out λd=>(store tg d τ).out .nx
 | .app i e,τ=>(bW τ i).out λx=>(evE w e τ).out λd=>match x with
  | .lst xs=>if xs.length<SZ then .nx (τ.set i (some (.lst (xs++[d]))))else .no
  |_=>.no
 | .seti i k e,τ=>(evE w e τ).out λd=>(bW τ i).out λx=>(evE w k τ).out λn=>match x,n with
  | .lst xs,.int j=>match ixN xs.length j with
   |some m=>.nx (τ.set i (some (.lst (xs.set m d))))
   |none=>.no
  |_,_=>.no
 | .exp e,τ=>(evE w e τ).out λ_=>.nx τ
 | .ret e,τ=>(evE w e τ).out .rt
 | .retN,_=>.rt .non
 | .ite t a b,τ=>(evT w t τ).out λr=>if r then qf w a τ else qf w b τ
 | .for tg it b,τ=>((evI w it τ).out λds=>cf tg (λσ=>qf w b σ) ds τ).noEx
 | .while t b,_=>.no
 | .raise c es,τ=>(zo w es τ).out λ_=>.ex c
 | .try b c i h,τ=>match qf w b τ with
  | .ex k=>if w.cat k.nm c=true then (qf w h (cB τ i k)).rtOnly else .no
  |o=>o
 | .ins i k e,_=>.no
 | .unk,_=>.no
 | .pass,τ=>.nx τ
 | .brk,τ=>.bk τ
 | .cnt,τ=>.ct τ
 | .par i j a b,_=>.no
 | .par3 i j k a b c,_=>.no
 | .raisF c es,τ=>match w.fld c with
  |some fs=>(zo w es τ).out (gQ fs c)
  |none=>.no
noncomputable def qf(w:W):Ss->Env->O
 | .nil,τ=>.nx τ
 | .cons s r,τ=>match evS w s τ with
  | .nx σ=>qf w r σ
  |o=>o
end
theorem b4:∀{w tg e τ},@Eq (O) (evS w (.set tg e) τ) ((evE w e τ).out λd=>(store tg d τ).out .nx):=rfl
theorem bY:∀{w i e τ},@Eq (O) (evS w (.app i e) τ) ((bW τ i).out λx=>(evE w e τ).out λd=>match x with
  | .lst xs=>if xs.length<SZ then .nx (τ.set i (some (.lst (xs++[d]))))else .no
  |_=>.no):=rfl
theorem cc:∀{w i k e τ},@Eq (O) (evS w (.seti i k e) τ) ((evE w e τ).out λd=>(bW τ i).out λx=>(evE w k τ).out λn=>match x,n with
  | .lst xs,.int j=>match ixN xs.length j with
   |some m=>.nx (τ.set i (some (.lst (xs.set m d))))
   |none=>.no
  |_,_=>.no):=rfl
theorem b7:∀{w e τ},@Eq (O) (evS w (.exp e) τ) ((evE w e τ).out λ_=>.nx τ):=rfl
theorem zF:∀{w e τ},@Eq (O) (evS w (.ret e) τ) ((evE w e τ).out .rt):=rfl
theorem bX:∀{w τ},@Eq (O) (evS w (.retN) τ) (.rt .non):=rfl
theorem b6:∀{w t a b τ},@Eq (O) (evS w (.ite t a b) τ) ((evT w t τ).out λr=>if r then qf w a τ else qf w b τ):=rfl
theorem zV:∀{w tg it b τ},@Eq (O) (evS w (.for tg it b) τ) (((evI w it τ).out λds=>cf tg (λσ=>qf w b σ) ds τ).noEx):=rfl
theorem cg:∀{w t b τ},@Eq (O) (evS w (.while t b) τ) (.no):=rfl
theorem zH:∀{w c es τ},@Eq (O) (evS w (.raise c es) τ) ((zo w es τ).out λ_=>.ex c):=rfl
theorem zx:∀{w b c i h τ},@Eq (O) (evS w (.try b c i h) τ) (match qf w b τ with
  | .ex k=>if w.cat k.nm c=true then (qf w h (cB τ i k)).rtOnly else .no
  |o=>o):=rfl
theorem zU:∀{w i k e τ},@Eq (O) (evS w (.ins i k e) τ) (.no):=rfl
theorem zS:∀{w τ},@Eq (O) (evS w (.unk) τ) (.no):=rfl
theorem zR:∀{w τ},@Eq (O) (evS w (.pass) τ) (.nx τ):=rfl
theorem zT:∀{w τ},@Eq (O) (evS w (.brk) τ) (.bk τ):=rfl
theorem zQ:∀{w τ},@Eq (O) (evS w (.cnt) τ) (.ct τ):=rfl
theorem zP:∀{w i j a b τ},@Eq (O) (evS w (.par i j a b) τ) (.no):=rfl
theorem zO:∀{w i j k a b c τ},@Eq (O) (evS w (.par3 i j k a b c) τ) (.no):=rfl
theorem zI:∀{w c es τ},@Eq (O) (evS w (.raisF c es) τ) (match w.fld c with
  |some fs=>(zo w es τ).out (gQ fs c)
  |none=>.no):=rfl
structure Fn where
 ps:Nat
 N:Nat
 fr:Bool
 body:Ss
noncomputable def zJ(w:W)(f:Fn)(ds:List D):R D:=if ds.length=f.ps then (match qf w f.body (ds.map some++bD (f.N-f.ps) none)with
  | .nx _=>if f.fr then .no else .ok .non
  | .rt d=>.ok d
  | .ex c=>.ex c
  |_=>.no)else .no
structure Pr where
 fns:Str->Option Fn
 glb:Str->Option D
 sub:Str->Cl->Option Bool
 cat:Str->Str->Bool
 fld:Str->Option (List Str)
noncomputable def qa(p:Pr):Nat->Str->List D->R D
 | 0,_,_=>.no
 |k+1,x,ds=>match p.fns x with
  |some f=>zJ ⟨qa p k,p.glb,p.sub,p.cat,p.fld⟩ f ds
  |none=>.no
inductive GK where
  |fn (fresh:Bool)|val|bi (b:B1)|rng|enum|zip|isi|ty (n:String) (b:Option B1)|exc|exk|set|exf
  deriving DecidableEq
structure Cc where
  nm:List (Str×aM)
  N:List Str
  own:List Str
  G:List (Str×GK)
  calm:Bool
  fnc:Bool
  thr:Bool
  GH:List (Str×GK)
  oc:List Str
  frz:Bool
noncomputable def loc(c:Cc)(x:Str):Option Nat:=
  if x == "__debug__" ||x == "__classdict__" then none else
  match c.nm.lookup x with
  |some .local|some .cell|some .free=>let i:=c.N.findIdx (· == x);if c.N[i]? = some x then some i else none
  |_=>none
noncomputable def cH(c:Cc)(x:Str):Option Nat:=
  match c.nm.lookup x with
  |some .local=>loc c x
  |some .cell=>if c.fnc||c.oc.contains x then loc c x else none
  |_=>none
noncomputable def glob(c:Cc)(x:Str):Option GK:=
  if x == "__debug__" ||x == "__name__" then none else
  match c.nm.lookup x with
  |some .globalImplicit=>c.G.lookup x
  |_=>none
noncomputable def esc:E->Bool
  | .own _=>false
  |_=>true
noncomputable def cZ:Es->Bool
  | .nil=>true
  | .cons e es=>esc e&&cZ es
noncomputable def isL:E->Bool
  | .lst _=>true
  | .rlst _=>true
  | .comp .. => true
  |_=>false
noncomputable def Az:O2->Bool
  | .add=>true
  | .mul=>true
  |_=>false
noncomputable def fresh(c:Cc):E->Bool
  | .op o a b=>Az o&&isL a||o==.add&&isL b
  | .lst _=>true
  | .rlst _=>true
  | .comp .. => true
  | .comp2 .. => true
  | .bi .list _=>true
  | .bi .sorted _=>true
  | .call f _=>c.G.lookup f==some (.fn true)
  |_=>false
noncomputable def o2:Operator->Option O2
  | .Add=>some .add
  | .Sub=>some .sub
  | .Mult=>some .mul
  | .FloorDiv=>some .fdiv
  | .Mod=>some .mod
  | .Pow=>some .pow
  | .LShift=>some .shl
  | .RShift=>some .shr
  | .BitAnd=>some .band
  | .BitOr=>some .bor
  | .BitXor=>some .bxor
  |_=>none
noncomputable def c2:CmpOp->C2
  | .Eq=>.eq
  | .NotEq=>.ne
  | .Lt=>.lt
  | .LtE=>.le
  | .Gt=>.gt
  | .GtE=>.ge
  | .Is=>.is
  | .IsNot=>.isnot
  | .In=>.isin
  | .NotIn=>.notin
noncomputable def dw:Expr->Bool
  | .ListComp .. => true
  | .SetComp .. => true
  | .DictComp .. => true
  |_=>false
noncomputable def zm:Expr->Bool
  | .Set .. => false
  |_=>true
noncomputable def gX(names nm:List (Str×aM)):List (Str×aM):=names.map λ(n,k)=>if k==bI&&(nm.lookup n==some .cell)then (n,aM.cell)else (n,k)
noncomputable def bM(names:List (Str×aM)):List Str:=(names.filter λp=>p.2==.local||p.2==.free||p.2==.cell).map (·.1)
noncomputable def eM(c:Cc)(names:List (Str×aM)):List (Option Nat):=(bM names).map λx=>if names.lookup x==some .free then loc c x else none
noncomputable def eJ:List Expr->Option (List Str)
  | []=>some []
  | .Name x _::r=>(eJ r).map (x :: ·)
  |_=>none
noncomputable def cTg(c:Cc):Expr->Option Tg
  | .Name x _=>if c.own.contains x then none else (cH c x).map .nm
  | .Tuple es _ _=>if c.calm then do
      let xs <-eJ es
      if xs.any c.own.contains then none else
      let is <-xs.mapM (cH c)
      if is.Nodup then some (.tp is)else none
    else none
  |_=>none
noncomputable def isStar:Expr->Bool
  | .Starred .. => true
  |_=>false
noncomputable def isSlice:Expr->Bool
  | .Slice .. => true
  |_=>false
noncomputable def isTup:Expr->Bool
  | .Tuple .. => true
  |_=>false
noncomputable def eY(it:It)(tg:Expr):Bool:=match it with
  | .enum _=>isTup tg
  | .zip .. => isTup tg
  |_=>true
noncomputable def gF(c:Cc):Expr->Option Cl
  | .Name x _=>match glob c x with
    |some (.ty n _)=>some (.ty n)
    |some .exc=>some (.ex x)
    |some .exk=>some (.ex x)
    |some .exf=>some (.ex x)
    |_=>none
  |_=>none
noncomputable def vr(c:Cc)(x:Str)(i:Nat):E:=if c.own.contains x then .own i else .var i
noncomputable def cMt(c:Cc)(o:Expr)(m:Str)(ap:Pos)(as:List Expr)(cp:Pos):Option E:=match o with
  | .Name x _=>match as with
    | [a]=>match a with
      | .Constant k _ _=>match k with
        | .bool b=>match loc c x with
          |some i=>if b&&ap.endLine==cp.line then (if m = "count" then some (.mth false (vr c x i))else if m = "index" then some (.mth true (vr c x i))else none)else none
          |none=>none
        |_=>none
      |_=>none
    |_=>none
  |_=>none
noncomputable def owned:It->Bool
  | .seq (.own _)=>true
  | .enum (.own _)=>true
  | .zip (.own _) _=>true
  | .zip _ (.own _)=>true
  |_=>false
noncomputable def oz(c:Cc)(b:B1)(_:List Expr):Option Expr:=none
noncomputable def ij:Expr->Bool
  | .ListComp _ gs _ _=>gs.length==2
  |_=>false
mutual
noncomputable def cE:Nat->Cc->Expr->Option E
  | 0,_,_=>none
  |n+1,c,e=>match e with
    | .Name x _=>match loc c x with
      |some i=>if c.own.contains x then some (.own i)else some (.var i)
      |none=>match glob c x with
        |some .val=>some (.glb x)
        |some (.fn _)=>some (.fnv x)
        |_=>none
    | .Constant k _ _=>match k with
      | .int i=>some (.con (.int i))
      | .bool i=>some (.con (.bl i))
      | .none=>some (.con .non)
      | .str x=>some (.con (.str x))
      |_=>none
    | .BinOp a op b _=>do
      let o <-o2 op
      let a <-cE n c a
      let b <-cE n c b
      some (.op o a b)
    | .UnaryOp op a _=>do
      let a <-cE n c a
      match op with
      | .USub=>some (.neg a)
      | .Invert=>some (.inv a)
      | .Not=>some (.not a)
      |_=>none
    | .BoolOp op vs _=>cBo n c op vs
    | .Attribute a f _=>match a with
      | .Name x _=>match loc c x with
        |some i=>if c.own.contains x then none else some (.fld (.var i) f)
        |none=>none
      |_=>none
    | .Compare a ops bs _=>match ops,bs with
      | [o],[b]=>do
        let a <-cE n c a
        let b' <-cE n c b
        if zm b then some (.cmp (c2 o) a b')else none
      | [o,o'],[b,d]=>do
        let a <-cE n c a
        let b' <-cE n c b
        let d' <-cE n c d
        if zm b&&zm d then some (.cmp2 (c2 o) (c2 o') a b' d')else none
      | [o,o',o''],[b,d,f]=>do
        let a <-cE n c a
        let b' <-cE n c b
        let d' <-cE n c d
        let f' <-cE n c f
        if zm b&&zm d&&zm f then some (.cmp3 (c2 o) (c2 o') (c2 o'') a b' d' f')else none
      |_,_=>none
    | .Dict ks vs _=>if ks.isEmpty&&vs.isEmpty then some .dic else none
    | .IfExp t a b _=>do
      let t <-cT n c t
      let a <-cE n c a
      let b <-cE n c b
      if esc a&&esc b then some (.ite t a b)else none
    | .Tuple es _ _=>do
      let es <-cEs n c es
      if cZ es then some (.tup es)else none
    | .List es _=>do
      let es <-cEs n c es
      if cZ es then some (.lst es)else none
    | .Subscript a b _=>match b with
      | .Slice lo hi st _=>match st with
        |some _=>none
        |none=>do
          let a <-cE n c a
          let lo <-cO n c lo
          let hi <-cO n c hi
          some (.sl a lo hi)
      |b=>do
        if isSlice b then none else
        let a <-cE n c a
        let b <-cE n c b
        some (.ix a b)
    | .ListComp elt gs sc _=>match gs with
     | [⟨tgt,it,ifs,asy⟩]=>do
      if !(asy==0) || !c.calm || !zm it then none else
      let c':Cc:={c with nm:=gX sc.names c.nm,N:=bM sc.names,fnc:=false,oc:=fv sc.names}
      let cap:=eM c sc.names
      if !fM (λx=>c.nm.lookup x) c.N (bM sc.names) cap sc || !decide (bM sc.names).Nodup then none else
      let it <-cI n c it
      let tg <-cTg c' tgt
      let t <-dZ n c' ifs
      let elt <-cE n c' elt
      if esc elt&&eY it tgt then some (.comp it cap tg t elt)else none
     |_=>none
    | .Call fe as ks cp=>match ks with
     | []=>match fe with
      | .Name f _=>match loc c f with
        |some _=>none
        |none=>match glob c f with
          |some (.fn _)=>do
            let es <-cEs n c as
            if cZ es && !as.isEmpty then some (.call f es)else if !as.isEmpty then some (.callo f es)else none
          |some (.bi b)=>match oz c b as with
            |some a=>(cE n c a).map (.sset (b==.len))
            |none=>do
              let es <-cEs n c as
              if !as.isEmpty&&(c.calm||b==.len||b==.abs)then some (.bi b es)else none
          |some (.ty t (some b))=>match as with
            | [.Call (.Name g p) as' [] q]=>if loc c g==none&&glob c g==some .rng then (if c.calm&&(t == "tuple" ||t == "list")then (match as' with
                | [a]=>if isStar a then none else do
                  let a <-cE n c a
                  some (if t = "tuple" then .rtup (.rng a)else .rlst (.rng a))
                | [a,d]=>if isStar a||isStar d then none else do
                  let a <-cE n c a
                  let d <-cE n c d
                  some (if t = "tuple" then .rtup (.rng2 a d)else .rlst (.rng2 a d))
                | [a,d,k]=>if isStar a||isStar d||isStar k then none else do
                  let a <-cE n c a
                  let d <-cE n c d
                  let k <-cE n c k
                  if t == "tuple" then some (.rtup (.rng3 a d k))else none
                |_=>none)
                else none)
              else do
                let es <-cEs n c as
                some (.bi b es)
            |_=>do
              let es <-cEs n c as
              if !as.isEmpty then some (.bi b es)else none
          |some .isi=>match as with
            | [a,k]=>do
              if isStar a then none else
              let a <-cE n c a
              let k <-gF c k
              some (.isi a k)
            |_=>none
          |_=>none
      | .Attribute o m ap=>match cMt c o m ap as cp with
        |some e=>some e
        |none=>none
      |_=>none
     |_=>none
    |_=>none
noncomputable def dZ:Nat->Cc->List Expr->Option T
  | 0,_,_=>none
  |n+1,c,ifs=>match ifs with
    | []=>some .yes
    | [t]=>cT n c t
    |_=>none
noncomputable def cBo:Nat->Cc->BoolOp->List Expr->Option E
  | 0,_,_,_=>none
  |n+1,c,op,vs=>match vs with
    | []=>none
    | [a]=>do
      let a <-cE n c a
      if esc a then some a else none
    |a::b::r=>do
      let a <-cE n c a
      let r <-cBo n c op (b::r)
      match op with
      | .And=>some (.and a r)
      | .Or=>some (.or a r)
noncomputable def cO:Nat->Cc->Option Expr->Option OE
  | 0,_,_=>none
  |n+1,c,o=>match o with
    |none=>some .none
    |some e=>(cE n c e).map .some
noncomputable def cEs:Nat->Cc->List Expr->Option Es
  | 0,_,_=>none
  |n+1,c,es=>match es with
    | []=>some .nil
    |e::r=>do
      if isStar e then none else
      let e <-cE n c e
      let r <-cEs n c r
      some (.cons e r)
noncomputable def cI:Nat->Cc->Expr->Option It
  | 0,_,_=>none
  |n+1,c,e=>match e with
    | .Call (.Name f p) as [] q=>match loc c f with
      |some _=>(cE n c (.Call (.Name f p) as [] q)).map .seq
      |none=>match glob c f with
        |some .rng=>(match as with
          | [a]=>if isStar a then none else (cE n c a).map .rng
          | [a,b]=>if isStar a||isStar b then none else do
            let a <-cE n c a
            let b <-cE n c b
            some (.rng2 a b)
          |_=>none)
        |some .enum=>(match as with
          | [a]=>if isStar a then none else (cE n c a).map .enum
          |_=>none)
        |some .zip=>(match as with
          | [a,b]=>if isStar a||isStar b then none else do
            let a <-cE n c a
            let b <-cE n c b
            some (.zip a b)
          |_=>none)
        |_=>(cE n c (.Call (.Name f p) as [] q)).map .seq
    |e=>(cE n c e).map .seq
noncomputable def cT:Nat->Cc->Expr->Option T
  | 0,_,_=>none
  |n+1,c,e=>match e with
    | .UnaryOp .Not a _=>(cT n c a).map .not
    | .BoolOp op vs _=>cTs n c op vs
    | .IfExp .. => none
    | .Compare a ops bs _=>match ops,bs with
      | [o],[b]=>do
        let a <-cE n c a
        let b' <-cE n c b
        if zm b then some (.cmp (c2 o) a b')else none
      | [o,o'],[b,d]=>do
        let a <-cE n c a
        let b' <-cE n c b
        let d' <-cE n c d
        if zm b&&zm d then some (.cmp2 (c2 o) (c2 o') a b' d')else none
      | [o,o',o''],[b,d,f]=>do
        let a <-cE n c a
        let b' <-cE n c b
        let d' <-cE n c d
        let f' <-cE n c f
        if zm b&&zm d&&zm f then some (.val (.cmp3 (c2 o) (c2 o') (c2 o'') a b' d' f'))else none
      |_,_=>none
    |e=>(cE n c e).map .val
noncomputable def cTs:Nat->Cc->BoolOp->List Expr->Option T
  | 0,_,_,_=>none
  |n+1,c,op,vs=>match vs with
    | []=>none
    | [a]=>cT n c a
    |a::b::r=>do
      let a <-cT n c a
      let r <-cTs n c op (b::r)
      match op with
      | .And=>some (.and a r)
      | .Or=>some (.or a r)
end
noncomputable def eO(c:Cc):Cc:={c with calm:=false,thr:=false,G:=c.GH,GH:=[]}

noncomputable def iS:Expr->Option (Str×Str×Pos×Expr×Pos)
  | .Call f as ks cp=>match f with
    | .Attribute o m ap=>match o with
      | .Name x _=>match as with
        | [a]=>if ks.isEmpty then some (x,m,ap,a,cp)else none
        |_=>none
      |_=>none
    |_=>none
  |_=>none
noncomputable def ly(_:Expr):Option (Str×Pos×Expr×Expr×Pos):=none
noncomputable def raiseOf:Expr->Option (Str×Expr×List Expr)
  | .Call f as ks _=>match f with
    | .Name x _=>match as with
      |a::as=>if ks.isEmpty then some (x,a,as)else none
      |_=>none
    |_=>none
  |_=>none
noncomputable def jv:Expr->Bool
  | .Tuple es _ _=>es.all (foldedForSure 8)
  |_=>false
mutual
noncomputable def cS:Nat->Cc->Bool->Stmt->Option S
  | 0,_,_,_=>none
  |n+1,c,fr,s=>match s with
    | .Assign ts e _=>match ts with
      | [t]=>match t with
        | .Name x _=>do
          if ij e then none else
          let i <-cH c x
          let e' <-cE n c e
          if c.own.contains x then (if fresh c e' && !c.frz then some (.set (.nm i) e')else none)else if esc e' then some (.set (.nm i) e')else none
        | .Tuple ts k p=>do
              let tg <-cTg c (.Tuple ts k p)
              let e' <-cE n c e
              if (isTup e && !jv e)||dw e || !esc e' then none else some (.set tg e')
        | .Subscript a k _=>match a with
          | .Name x _=>do
            let i <-cH c x
            let e' <-cE n c e
            let k' <-cE n c k
            if c.own.contains x&&esc e' && !isSlice k && !dw e && !c.frz then some (.seti i k' e')else none
          |_=>none
        |_=>none
      |_=>none
    | .Expr e _=>match ly e with
      |some (x,ap,k,a,cp)=>do
        let i <-cH c x
        let k' <-cE n c k
        let a' <-cE n c a
        if c.own.contains x&&esc a' && !isStar k && !isStar a&&ap.endLine==cp.line && !c.frz then some (.ins i k' a')else none
      |none=>match iS e with
      |some (x,m,ap,a,cp)=>do
        let i <-cH c x
        let a' <-cE n c a
        if m == "append" && c.own.contains x&&esc a' && !isStar a&&ap.endLine==cp.line && !c.frz then some (.app i a')else none
      |none=>do
        if dw e then none else
        let e' <-cE n c e
        some (.exp e')
    | .Return o _=>match o with
      |some e=>do
        let e' <-cE n c e
        if fr then (match e with
          | .Name y _=>if c.own.contains y then (loc c y).map (λi=>.ret (.own i))else none
          |_=>if fresh c e' then some (.ret e')else none)
        else some (.ret e')
      |none=>if fr then none else some .retN
    | .If t a b _=>do
      let t <-cT n c t
      let a <-cSs n c fr a
      let b <-cSs n c fr b
      some (.ite t a b)
    | .For tg it b els _=>do
      if !els.isEmpty || !c.calm || !zm it then none else
      let tg' <-cTg c tg
      let it <-cI n c it
      if !eY it tg then none else
      let b <-cSs n {c with frz:=c.frz||owned it} fr b
      some (.for tg' it b)
    | .While t b els _=>do
      if !els.isEmpty || !c.calm then none else
      let t <-cT n c t
      let b <-cSs n c fr b
      some (.while t b)
    | .Raise o o' _=>match o with
      |some r=>match raiseOf r with
        |some (x,a,as)=>do
          if !o'.isNone || !c.calm || !c.thr then none else
          match glob c x with
          |some .exc=>do
            let es <-cEs n c (a::as)
            some (.raise x es)
          |some .exf=>do
            let es <-cEs n c (a::as)
            some (.raisF x es)
          |_=>none
        |none=>none
      |none=>none
    | .Try b hs els fin _=>match hs with
      | [.ExceptHandler ty y h _]=>match ty with
        |some (.Name x _)=>do
          if !els.isEmpty || !fin.isEmpty || !c.calm || !c.fnc||fr||h.isEmpty || !c.own.isEmpty||c.frz then none else
          let b <-cSs n {c with thr:=false} fr b
          let h <-cSs n (eO c) fr h
          if !(glob c x==some .exc||glob c x==some .exk)then none else
          match y with
          |none=>some (.try b x none h)
          |some y=>do
            let i <-cH c y
            if c.nm.lookup y==some .local then some (.try b x (some i) h)else none
        |_=>none
      |_=>none
    | .Pass _=>some .pass
    | .Break _=>some .brk
    | .Continue _=>some .cnt
    |_=>none
noncomputable def cSs:Nat->Cc->Bool->List Stmt->Option Ss
  | 0,_,_,_=>none
  |n+1,c,fr,ss=>match ss with
    | []=>some .nil
    |s::r=>do
      let r <-cSs n c fr r
      some (.cons ((cS n c fr s).getD .unk) r)
end
noncomputable def noOwn(c:Cc):Cc:={c with own:=[],frz:=false}
noncomputable def eR(n:Nat)(c:Cc)(fr:Bool)(b:List Stmt):Option Ss:=cSs n c fr b
noncomputable def argNames(a:Arguments):List Str:=a.args.map (·.arg)
noncomputable def dg(a:Arguments)(sc:aN):List Str:=argNames a++((sc.names.filter λp=>p.2==.local||p.2==.cell).map (·.1)).filter λx=>!(argNames a).contains x
noncomputable def eK(N ps:List Str)(sc:aN):Bool:=
  sc.kind==.function && !sc.isCoroutine && !sc.isGenerator&&decide N.Nodup&&decide (N.take ps.length=ps)&&ps.all (λx=>sc.names.lookup x==some .local||sc.names.lookup x==some .cell)&&sc.names.all λy=>y.2 != .free
noncomputable def fm:Nat:=60
noncomputable def cFn(G GH:List (Str×GK))(own:List Str)(fr:Bool)(st:Stmt):Option Fn:=do
  let a:=qo st
  let sc:=qk st
  let N:=dg a sc
  if !eK N (argNames a) sc||(argNames a).any own.contains then none else
  let b <-eR fm ⟨sc.names,N,own,G,true,true,true,GH,[],false⟩ fr (zB st)
  some ⟨(argNames a).length,N.length,fr,b⟩
noncomputable def eS(GU:List (Str×GK))(own:List Str)(fr:Bool)(st:Stmt):Option Fn:=do
  let a:=qo st
  let sc:=qk st
  let N:=dg a sc
  if !eK N (argNames a) sc||(argNames a).any own.contains then none else
  let b <-eR fm ⟨sc.names,N,own,GU,false,true,false,[],[],false⟩ fr (zB st)
  some ⟨(argNames a).length,N.length,fr,b⟩
end EV

namespace EV
open PySem PySem.Spec PyProof.Rows L2
structure Gc where
 K:aq
 fnA:Str->Option Addr
 clA:Str->Option Addr
noncomputable def fB(H:Hp)(dx:Option Addr)(fs:List (Str×Int)):Prop:=(fs=[]/\dx=none)\/∃d,dx=some d/\H d=some (.xd (fs.map λy=>(y.1,V.int y.2)))
theorem fB.mono{H H':Hp}{dx:Option Addr}{fs:List (Str×Int)}(e:qe H H')(h:fB H dx fs):fB H' dx fs:=by
 rcases h with h|⟨d,h1,h2⟩
 ·exact .inl h
 ·exact .inr ⟨d,h1,e _ _ h2⟩
noncomputable def dB(H H':Hp)(dx:Option Addr)(fs:List (Str×Int)):Prop:=(fs=[]/\dx=none)\/∃d,dx=some d/\H d=none/\H' d=some (.xd (fs.map λy=>(y.1,V.int y.2)))
theorem dB.low{H H1 H':Hp}{dx:Option Addr}{fs:List (Str×Int)}(e:qe H H1)(h:dB H1 H' dx fs):dB H H' dx fs:=by
 rcases h with h|⟨d,h1,h2,h3⟩
 ·exact .inl h
 ·exact .inr ⟨d,h1,e.free h2,h3⟩
mutual
inductive Rep(g:Gc)(H:Hp):D->V->Prop
 |non:Rep g H .non .non
 |bl (b:Bool):Rep g H (.bl b) (.bl b)
 |int (i:Int):Rep g H (.int i) (.int i)
 |str (x:Str):Rep g H (.str x) (.str x)
 |tup {a:Addr}{xs:List V}{ds:List D}:SqT g.K H a xs->qt g H ds xs->Rep g H (.tup ds) (.ref a)
 |lst {a:Addr}{xs:List V}{ds:List D}:SqL g.K H a xs->qt g H ds xs->Rep g H (.lst ds) (.ref a)
 |fn {x:Str}{a:Addr}:g.fnA x=some a->Rep g H (.fn x) (.ref a)
 |exn {c:Xc}{a C:Addr}{dx:Option Addr}:g.clA c.nm=some C->H a=some (dJ a (.ref C) dx)->fB H dx c.fs->dx≠some a->Rep g H (.exn c) (.ref a)
 |dic {a:Addr}:H a=some (.dK [])->Rep g H .dic (.ref a)
inductive qt(g:Gc)(H:Hp):List D->List V->Prop
 |nil:qt g H [] []
 |cons {d:D}{ds:List D}{x:V}{xs:List V}:Rep g H d x->qt g H ds xs->qt g H (d::ds) (x::xs)
end
theorem zr{K:aq}{H H':Hp}{a:Addr}{xs:List V}(e:qe H H')(h:SqT K H a xs):SqT K H' a xs:=by
 rcases h with (h|⟨o,h⟩)|h
 ·exact .inl (.inl (e _ _ h))
 ·exact .inl (.inr ⟨o,e _ _ h⟩)
 ·exact .inr h
section
variable{g:Gc}{H H':Hp}
theorem nH{a b:Bool}(h:(a&&b)=true):a=true/\b=true:=by rw[aJ]at h;exact h
theorem Rep.mono(e:qe H H'){d:D}{v:V}(h:Rep g H d v):Rep g H' d v:=
 h.rec (motive_1:=λd v _=>Rep g H' d v) (motive_2:=λd v _=>qt g H' d v) .non .bl .int .str (λq _ r=>.tup (zr e q) r) (λq _ r=>.lst (e.seq q) r) .fn (λq r z n=>.exn q (e _ _ r) (z.mono e) n) (λq=>.dic (e _ _ q)) .nil (λ_ _ a b=>.cons a b)
theorem qt.mono(e:qe H H'){d:List D}{v:List V}(h:qt g H d v):qt g H' d v:=
 h.rec (motive_1:=λd v _=>Rep g H' d v) (motive_2:=λd v _=>qt g H' d v) .non .bl .int .str (λq _ r=>.tup (zr e q) r) (λq _ r=>.lst (e.seq q) r) .fn (λq r z n=>.exn q (e _ _ r) (z.mono e) n) (λq=>.dic (e _ _ q)) .nil (λ_ _ a b=>.cons a b)
theorem qt.length{ds:List D}:∀{vs:List V},qt g H ds vs->ds.length=vs.length:=by
 induction ds with
 |nil=>intro vs h;cases h;rfl
 |cons d ds ih=>intro vs h;cases h with|cons _ r=>exact congrArg (· + 1) (ih r)
theorem qt.get{ds:List D}:∀{vs:List V}{i:Nat}{d:D},qt g H ds vs->ds[i]? = some d->∃v,vs[i]? = some v/\Rep g H d v:=by
 induction ds with
 |nil=>intro vs i d h e;cases e
 |cons d ds ih=>
  intro vs i d' h e;cases h with
  |cons h t=>cases i with
   |zero=>cases e;exact⟨_,rfl,h⟩
   |succ i=>exact ih (i:=i) t e
theorem qt.append{ds:List D}:∀{es:List D}{vs us:List V},qt g H ds vs->qt g H es us->qt g H (ds++es) (vs++us):=by
 induction ds with
 |nil=>intro es vs us h s;cases h;exact s
 |cons d ds ih=>intro es vs us h s;cases h with|cons r t=>exact .cons r (ih t s)
theorem qt.take{ds:List D}:∀{vs:List V} (n:Nat),qt g H ds vs->qt g H (ds.take n) (vs.take n):=by
 induction ds with
 |nil=>intro vs n h;cases h;cases n<;>exact .nil
 |cons d ds ih=>intro vs n h;cases h with|cons r t=>cases n with
  |zero=>exact .nil
  |succ n=>exact .cons r (ih n t)
theorem qt.drop{ds:List D}:∀{vs:List V} (n:Nat),qt g H ds vs->qt g H (ds.drop n) (vs.drop n):=by
 induction ds with
 |nil=>intro vs n h;cases h;cases n<;>exact .nil
 |cons d ds ih=>intro vs n h;cases n with
  |zero=>exact h
  |succ n=>cases h with|cons r t=>exact ih n t
theorem qt.set{d:D}{v:V}(r:Rep g H d v){ds:List D}:∀{vs:List V} (i:Nat),qt g H ds vs->qt g H (ds.set i d) (vs.set i v):=by
 induction ds with
 |nil=>intro vs i h;cases h;exact .nil
 |cons d' ds ih=>intro vs i h;cases h with|cons q t=>cases i with
  |zero=>exact .cons r t
  |succ i=>exact .cons q (ih i t)
theorem qt.ints{ds:List D}:∀{vs:List V}{ns:List Int},qt g H ds vs->ints? ds=some ns->vs=ns.map V.int/\ds=ns.map D.int:=by
 induction ds with
 |nil=>intro vs ns h e;cases h;cases e;exact⟨rfl,rfl⟩
 |cons d ds ih=>
  intro vs ns h e;cases h with
  |cons h t=>cases d with
   |int i=>
    obtain⟨ms,e1,rfl⟩:=bF.mp (show (ints? ds).map (i :: ·)=some ns from e);obtain⟨h1,h2⟩:=ih t e1;cases h;exact⟨by rw[h1];rfl,by rw[h2];rfl⟩
   |_=>cases (show none=some ns from e)
theorem qt.bools{ds:List D}:∀{vs:List V}{ns:List Bool},qt g H ds vs->bools? ds=some ns->vs=ns.map V.bl:=by
 induction ds with
 |nil=>intro vs ns h e;cases h;cases e;rfl
 |cons d ds ih=>
  intro vs ns h e;cases h with
  |cons h t=>cases d with
   |bl i=>
    obtain⟨ms,e1,rfl⟩:=bF.mp (show (bools? ds).map (i :: ·)=some ns from e);have h1:=ih t e1;cases h;rw[h1];rfl
   |_=>cases (show none=some ns from e)
theorem qt.ofInts:∀(ns:List Int),qt g H (ns.map D.int) (ns.map V.int)
 | []=>.nil
 |i::r=>.cons (.int i) (qt.ofInts r)
end
structure Sh where
 o:Addr->Bool
 h:Addr->Bool
 z:L2.St
 y:Hp
noncomputable def hid(H:Hp)(S:Sh):Hp:=λb=>if S.h b=true then none else H b
noncomputable def bZ(S:Sh)(a:Addr):Sh:=⟨S.o,λb=>S.h b||b==a,S.z,S.y⟩
theorem bA{H:Hp}{S:Sh}{b:Addr}{o:HO}:hid H S b=some o↔S.h b=false/\H b=some o:=by
 unfold hid;cases h:S.h b<;>simp
theorem zt{H:Hp}{S:Sh}:qe (hid H S) H:=λ_ _ h=>(bA.mp h).2
theorem qT{H H':Hp}{S:Sh}(e:qe H H'):qe (hid H S) (hid H' S):=λb o h=>bA.mpr ⟨(bA.mp h).1,e _ _ (bA.mp h).2⟩
noncomputable def Sub(S:Sh)(H:Hp):Prop:=∀a,(S.h a=true\/S.o a=true)->H a≠none
theorem Sub.same{S:Sh}{H H':Hp}(h:Sub S H)(e:qe H H'):Sub S H':=λa s n=>by
 cases q:H a with
 |none=>exact h a s q
 |some o=>rw[e _ _ q]at n;cases n
theorem Sub.free{S:Sh}{H:Hp}(h:Sub S H){p:Addr}(n:H p=none):S.h p=false:=by
 cases q:S.h p with
 |false=>rfl
 |true=>exact absurd n (h p (.inl q))
theorem Sub.freeO{S:Sh}{H:Hp}(h:Sub S H){p:Addr}(n:H p=none):S.o p=false:=by
 cases q:S.o p with
 |false=>rfl
 |true=>exact absurd n (h p (.inr q))
theorem zk{H:Hp}{p:Addr}{o:HO}(n:H p=none):qe H (upd H p o):=λb u h=>by
 rw[qg (λz=>by rw[z,n]at h;cases h)];exact h
theorem iI{H:Hp}{S:Sh}{p:Addr}{o:HO}(hs:Sub S H)(n:H p=none):hid (upd H p o) S p=some o:=bA.mpr ⟨hs.free n,zp⟩
theorem gG{H:Hp}{S:Sh}{p:Addr}{o:HO}(n:H p=none):qe (hid H S) (hid (upd H p o) (bZ S p)):=λb u h=>by
 obtain⟨h1,h2⟩:=bA.mp h;have hb:b≠p:=λz=>by rw[z,n]at h2;cases h2
 refine bA.mpr ⟨?_,by rw[qg hb];exact h2⟩;show (S.h b||b==p)=false;rw[h1]
 simpa using hb
theorem lp{H:Hp}{S:Sh}{p:Addr}:qe (hid H (bZ S p)) (hid H S):=λb u h=>by
 obtain⟨h1,h2⟩:=bA.mp h;refine bA.mpr ⟨?_,h2⟩;have h1:(S.h b||b==p)=false:=h1;simp at h1;exact h1.1
noncomputable def zq(g:Gc)(H:Hp)(S:Sh)(d:D)(v:V):Prop:=
 Rep g (hid H S) d v\/∃a vs ds,S.o a=true/\v=.ref a/\d=.lst ds/\H a=some (.lst vs)/\qt g (hid H S) ds vs
noncomputable def Fr(g:Gc)(H0:Hp)(S:Sh)(H:Hp)(d:D)(v:V):Prop:=
 ∃a vs ds,v=.ref a/\d=.lst ds/\H0 a=none/\H a=some (.lst vs)/\qt g (hid H (bZ S a)) ds vs
section
variable{g:Gc}{H H' H0:Hp}{S:Sh}{d:D}{v:V}
theorem zq.mono(e:qe H H')(h:zq g H S d v):zq g H' S d v:=by
 rcases h with h|⟨a,vs,ds,h1,h2,h3,h4,h5⟩
 ·exact .inl (h.mono (qT e))
 ·exact .inr ⟨a,vs,ds,h1,h2,h3,e _ _ h4,h5.mono (qT e)⟩
theorem zq.rep(h:zq g H S d v):Rep g H d v:=by
 rcases h with h|⟨a,vs,ds,h1,rfl,rfl,h4,h5⟩
 ·exact h.mono zt
 ·exact .lst (SqL.of h4) (h5.mono zt)
theorem zq.lst{ds:List D}(h:zq g H S (.lst ds) v):∃a vs,v=.ref a/\SqL g.K H a vs/\qt g (hid H S) ds vs:=by
 rcases h with h|⟨a,vs,ds',h1,rfl,h3,h4,h5⟩
 ·cases h with
  |lst h r=>exact⟨_,_,rfl,zt.seq h,r⟩
 ·cases h3;exact⟨a,vs,rfl,SqL.of h4,h5⟩
theorem zq.strong(h:zq g H S d v)(n:∀ds,d≠.lst ds):Rep g (hid H S) d v:=by
 rcases h with h|⟨a,vs,ds',h1,rfl,h3,h4,h5⟩
 ·exact h
 ·exact absurd h3 (n _)
theorem zq.tup{ds:List D}(h:zq g H S (.tup ds) v):∃a vs,v=.ref a/\SqT g.K H a vs/\qt g (hid H S) ds vs:=by
 cases h.strong (by intro _ z;cases z)with
 |tup h2 r=>exact⟨_,_,rfl,zr zt h2,r⟩
theorem zq.seq{ds:List D}(h:zq g H S d v)(e:seq? d=some ds):∃a vs,v=.ref a/\(SqL g.K H a vs\/SqT g.K H a vs)/\qt g (hid H S) ds vs:=by
 cases d with
 |tup xs=>cases e;obtain⟨a,vs,h1,h2,h3⟩:=h.tup;exact⟨a,vs,h1,.inr h2,h3⟩
 |lst xs=>cases e;obtain⟨a,vs,h1,h2,h3⟩:=h.lst;exact⟨a,vs,h1,.inl h2,h3⟩
 |_=>cases e
theorem zq.int{i:Int}(h:zq g H S (.int i) v):v=.int i:=by cases h.strong (by intro _ z;cases z);rfl
theorem zq.bl{b:Bool}(h:zq g H S (.bl b) v):v=.bl b:=by cases h.strong (by intro _ z;cases z);rfl
theorem eT{ds:List D}{vs:List V}{p:Addr}(hs:Sub S H)(n:H p=none)(r:qt g (hid H S) ds vs):Rep g (hid (upd H p (.tup vs)) S) (.tup ds) (.ref p):=
 .tup (SqT.of (iI hs n)) (r.mono (qT (zk n)))
theorem el{ds:List D}{vs:List V}{p:Addr}(hs:Sub S H)(n:H p=none)(r:qt g (hid H S) ds vs):Rep g (hid (upd H p (.lst vs)) S) (.lst ds) (.ref p):=
 .lst (SqL.of (iI hs n)) (r.mono (qT (zk n)))
theorem eV{ds:List D}{vs:List V}{p:Addr}(e:qe H0 H)(n:H p=none)(r:qt g (hid H S) ds vs):Fr g H0 S (upd H p (.lst vs)) (.lst ds) (.ref p):=
 ⟨p,vs,ds,rfl,rfl,e.free n,zp,r.mono (gG n)⟩
end
end EV
namespace HT
open PySem PySem.Spec PyProof.Rows L2
section
variable{prog:av}{w:au}{A:aw}{E:ae->af->Prop}{s:af}
theorem rQ{l:Addr}{its:Array ae}{Q:List ae->af->Prop}(ht:IsTup s.heap l its)(hz:its.size<=aK)
  (h:Q its.toList {s with heap:=(s.heap.push (seqObj "list" #[] 0)).update s.heap.objs.size (bz (· ++ its))}) :
  ai (aj prog w) A (collect (.ref l)) Q E s:=by
 obtain⟨o,ho,hc,n,hd⟩:=id ht;unfold collect;apply ag;apply wpAny_runValue;apply codeAny_builtin entry_proto_collect';show ai _ _ (do again (.builtin "list.__iadd__" ⟨[<-newList [],.ref l],[]⟩)) _ _ s;apply ag;refine wpAny_newList (hsz:=Nat.zero_le _) ?_;refine ax ⟨Code.quiet_builtin _ (by decide +kernel),?_⟩;apply codeAny_builtin entry_list_iadd';show ai _ _ (Builtin.List.listExtendWith (.ref s.heap.objs.size) (.ref l) (.ref s.heap.objs.size)) _ _ ({s with heap:=s.heap.push (seqObj "list" #[] 0)}:af);have hS:(s.heap.push (seqObj "list" #[] 0)).get? s.heap.objs.size=some (seqObj "list" #[] 0):=Heap.get?_push_size _ rfl;have hT:=Heap.get?_push_of_some (seqObj "list" #[] 0) ho;unfold Builtin.List.listExtendWith;apply ag;refine wpAny_typeOf (T:="tuple") ⟨o,hT,hc⟩ ?_;rw[if_pos (by simp)];apply ag;refine listItems_at hT hd ?_;apply ag;refine listItems_at hS rfl ?_;rw[if_neg (by simp)];apply ag;refine listUpdate_at hS rfl ?_ (Nat.zero_le _) (by show (#[]++its).size<=aK+1;rw[Array.size_append];show 0+its.size<=_;lia);apply ax;show ai (aj prog w) A (load s.heap.objs.size>>=λo=>match o.data with
  | .seq xs _=>pure xs.toList
  |_=>unsupported "internal:collect") Q E _
 apply ag;refine wpAny_load (get?_update_seq hS _) ?_;show ai _ _ (pure ((#[]:Array ae)++its).toList) Q E _;rw[show ((#[]:Array ae)++its).toList=its.toList by simp];exact ax h
theorem sF{l:Addr}{vs:List ae}{ns:List Int}{Q:ae->af->Prop}(ht:IsTup s.heap l vs.toArray)(hI:IntsAre vs ns)(h64:vs.length<64)
  (h:∀(out:Array ae) (ns':List Int),IntsAre out.toList ns'->ns'.Perm ns->ns'.Pairwise (·<=·)->Q (.ref (s.heap.objs.size+1)) {s with heap:=sortedAll s.heap vs out}) :
  ai (aj prog w) A (call (.builtin "sorted") [.ref l]) Q E s:=by
 refine Calls.call_function_entry kind_sorted plain_sorted entry_sorted (args_sorted1 _) ?_;unfold Builtin.«sorted»;apply ag (m:=checkCount "sorted" 1 1 _);apply ax;apply ag;refine rQ ht (by rw[aO,a0];lia) ?_;apply ag;refine wpAny_newList (hsz:=by rw[a0];show vs.length<=_;lia) ?_;have hz:((s.heap.push (seqObj "list" #[] 0)).update s.heap.objs.size (bz (· ++ vs.toArray))).objs.size=s.heap.objs.size+1:=by rw[Heap.size_update,size_push']
 have hL:(((s.heap.push (seqObj "list" #[] 0)).update s.heap.objs.size (bz (· ++ vs.toArray))).push (seqObj "list" vs.toArray 0)).get? (s.heap.objs.size+1)=some (seqObj "list" vs.toArray 0):=hz▸Heap.get?_push_size _ rfl;show ai _ _ _ _ _ ({s with heap:=((s.heap.push (seqObj "list" #[] 0)).update s.heap.objs.size (bz (· ++ vs.toArray))).push (seqObj "list" vs.toArray 0)}:af);rw[hz];apply ag;apply bO;refine cw slot_list_sort ⟨_,hL,rfl⟩ entry_list_sort (list_sort_tree hL hI h64 λout ns' a1 a2 a3=>⟨_,rfl,?_⟩) (args_list_sort _);exact ax ⟨_,rfl,h out ns' a1 a2 a3⟩
end
end HT
namespace L2
open PySem PySem.Spec PyProof.Rows
variable{X:Cx}
noncomputable def u7(K:aq):List V->Hp->VK->Prop:=λvs H Q=>∃(l:Addr) (ns:List Int),vs=[.ref l]/\SqT K H l (ns.map V.int)/\ns.length<64/\∀(D:Addr) (ms:List Int),H D=none->ms.Perm ns->ms.Pairwise (·<=·)->Q (.ref D) (upd H D (.lst (ms.map V.int)))
theorem wG:zg X (.builtin "sorted") (u7 X.K):=by
 intro pins s σ H xs us Q I r ⟨l,ns,e,hl,h64,q⟩;subst e;obtain⟨u,rfl,ru⟩:=r.one;cases ru;obtain⟨its,rv,ht,hz⟩:=I.tuple hl;have hI:=intsAre_of rv;have hle:=IntsAre.length hI;refine HT.sF ht hI (by rw[hle];exact h64) λout ns' a1 a2 a3=>?_
 obtain⟨c,hc⟩:=sortedAll_at s.heap its out;have keep:∀b o,s.heap.get? b=some o->(sortedAll s.heap its out).get? b=some o:=λb o e=>sortedAll_old e
 have hn:H (s.heap.objs.size+1)=none:=I.hok.fresh (Nat.le_succ _);have hl':ns'.length=ns.length:=a2.length_eq;exact⟨.ref (s.heap.objs.size+1),_,I.laid (t':=s.toks) (o:=.lst (ns'.map V.int)) keep (Nat.le_succ _) ⟨by rw[aW,a0];lia,out.toList,c,nZ a1,by rw[Array.toArray_toList];exact hc⟩,rfl,q _ ns' hn a2 a3⟩
section
variable{X:Cx}
end
end L2
namespace EV
open PySem PySem.Spec PySem.P PyProof.Rows L2
mutual
noncomputable def D.py:D->PyData
 | .non=>.none
 | .bl b=>.bool b
 | .int i=>.int i
 | .str x=>.str x
 | .tup xs=>.tuple (pys xs)
 | .lst xs=>.list (pys xs)
 | .fn _=>.none
 | .exn _=>.none
 | .dic=>.none
noncomputable def pys:List D->List PyData
 | []=>[]
 |x::xs=>x.py::pys xs
end
mutual
theorem lq:∀{d:D},d.plain=true->d.py.canLay0=true
 | .non,_ | .bl _,_ | .int _,_=>by simp[D.py,PyData.canLay0]
 | .str x,h=>by simpa[D.py,PyData.canLay0,D.plain]using h
 | .tup xs,h=>by simp only[D.py,PyData.canLay0];exact jr (by simpa[D.plain]using h)
 | .lst xs,h=>by simp only[D.py,PyData.canLay0];exact jr (by simpa[D.plain]using h)
 | .fn _,h | .exn _,h | .dic,h=>by simp[D.plain]at h
theorem jr:∀{ds:List D},plainAll ds=true->PyData.canLayAll0 (pys ds)=true
 | [],_=>by simp[pys,PyData.canLayAll0]
 |x::xs,h=>by
  simp only[plainAll,aJ]at h;simp only[pys,PyData.canLayAll0,aJ];exact⟨lq h.1,jr h.2⟩
end
mutual
theorem nQ:∀(d:D),d.py.depth=d.deep
 | .non | .bl _ | .int _ | .str _ | .fn _ | .exn _ | .dic=>by simp[D.py,PyData.depth,D.deep]
 | .tup xs=>by simp only[D.py,PyData.depth,D.deep];rw[jk xs]
 | .lst xs=>by simp only[D.py,PyData.depth,D.deep];rw[jk xs]
theorem jk:∀(ds:List D),PyData.depthAll (pys ds)=fb ds
 | []=>by simp[pys,PyData.depthAll,fb]
 |x::xs=>by simp only[pys,PyData.depthAll,fb];rw[nQ x,jk xs]
end
mutual
theorem iB:∀(a b:D),a.plain=true->b.plain=true->PyData.eqv a.py b.py=a.eqv b
 | .tup xs,.tup ys,h,h'=>by simp only[D.py,PyData.eqv,D.eqv];exact jm xs ys (by simpa[D.plain]using h) (by simpa[D.plain]using h')
 | .lst xs,.lst ys,h,h'=>by simp only[D.py,PyData.eqv,D.eqv];exact jm xs ys (by simpa[D.plain]using h) (by simpa[D.plain]using h')
 | .fn _,_,h,_=>by simp[D.plain]at h
 | .exn _,_,h,_=>by simp[D.plain]at h
 | .dic,_,h,_=>by simp[D.plain]at h
 | .non,b,_,h' | .bl _,b,_,h' | .int _,b,_,h' | .str _,b,_,h'=>by cases b<;>simp[D.py,PyData.eqv,D.eqv,D.plain]at h' ⊢
 | .tup _,.non,_,_ | .tup _,.bl _,_,_ | .tup _,.int _,_,_ | .tup _,.str _,_,_ | .tup _,.lst _,_,_=>by simp[D.py,PyData.eqv,D.eqv]
 | .lst _,.non,_,_ | .lst _,.bl _,_,_ | .lst _,.int _,_,_ | .lst _,.str _,_,_ | .lst _,.tup _,_,_=>by simp[D.py,PyData.eqv,D.eqv]
 | .tup _,.fn _,_,h' | .tup _,.exn _,_,h' | .lst _,.fn _,_,h' | .lst _,.exn _,_,h' | .tup _,.dic,_,h' | .lst _,.dic,_,h'=>by simp[D.plain]at h'
theorem jm:∀(xs ys:List D),plainAll xs=true->plainAll ys=true->PyData.eqvAll (pys xs) (pys ys)=eqvAll xs ys
 | [],[],_,_=>by simp[pys,PyData.eqvAll,eqvAll]
 |x::xs,y::ys,h,h'=>by
  simp only[plainAll,aJ]at h h';simp only[pys,PyData.eqvAll,eqvAll];rw[iB x y h.1 h'.1,jm xs ys h.2 h'.2]
 | [],_::_,_,_=>by simp[pys,PyData.eqvAll,eqvAll]
 |_::_,[],_,_=>by simp[pys,PyData.eqvAll,eqvAll]
end
theorem Rep.data{g:Gc}{H:Hp}{d:D}{v:V}(h:Rep g H d v):d.plain=true->dh g.K H v d.py:=
 h.rec (motive_1:=λd v _=>d.plain=true->dh g.K H v d.py) (motive_2:=λds vs _=>plainAll ds=true->eP g.K H vs (pys ds)) (λ_=>.non) (λb _=>.bl b) (λb _=>.int b) (λb _=>.str b) (λq _ r p=>.tup q (r p)) (λq _ r p=>.lst q (r p)) (λ_ p=>nomatch p) (λ_ _ _ _ p=>nomatch p) (λ_ p=>nomatch p) (λ_=>.nil) (λ_ _ a b p=>.cons (a (nH p).1) (b (nH p).2))
theorem fP{d:D}:d.asks=true↔d.plain=true/\d.deep<=20:=by simp[D.asks]
section
variable{X:Cx}{g:Gc}
theorem OpR.imp{f:ae->ae->Sem ae}{r r':R2}(h:OpR X f r)(i:∀x y H Q,r' x y H Q->r x y H Q):OpR X f r':=
 λpins s σ H x y v u Q I rx ry q=>h pins s σ H x y v u Q I rx ry (i _ _ _ _ q)
noncomputable def vg(K:aq):R2:=λx y H Q=>∃l b xs zs,x=.ref l/\y=.ref b/\SqL K H l xs/\SqL K H b zs/\xs.length+zs.length<=aK/\∀p,H p=none->Q (.ref p) (upd H p (.lst (xs++zs)))
theorem ye:OpR X (bq .Add) (vg X.K):=by
 intro pins s σ H x y v u Q I rx ry h;obtain⟨l,b,xs,zs,rfl,rfl,hH,hB,hz,q⟩:=h;cases rx;cases ry;obtain⟨its,r,pl,z⟩:=I.list hH;obtain⟨its2,r2,pl2,z2⟩:=I.list hB;have l1:=r.length;have l2:=r2.length;obtain⟨⟨cls,dd,data,sl⟩,ho,hc,n,hd⟩:=pl.isList;obtain⟨⟨cls2,dd2,data2,sl2⟩,ho2,hc2,n2,hd2⟩:=pl2.isList;simp only at hc hd hc2 hd2;subst hc hd hc2 hd2;refine concat_meets ⟨_,ho,rfl⟩ ⟨_,ho2,rfl⟩ noFill_list_add seq_list_add PySem.F.slot_list_add PySem.F.entry_list_add (PySem.F.args_list_add_2 _ _) (list_addW l b its.toArray its2.toArray n n2 dd dd2 sl sl2 (by rw[aO,aO];lia)) ⟨ho,ho2,?_⟩;have ea:its.toArray++its2.toArray=(its++its2).toArray:=by simp
 rw[ea];exact⟨.ref _,_,I.lnew (t':=s.toks) (r.append r2) (by rw[b_];lia),rfl,q _ I.fresh⟩
noncomputable def rOp(g:Gc)(o:O2):R2:=λx y H Q=>∃S da db,Sub S H/\zq g H S da x/\zq g H S db y /\
 match op2 o da db with
 | .ok d=>∀v H',qe H H'->Rep g (hid H' S) d v->(kI da=true->Fr g H S H' d v)->Q v H'
 |_=>False
theorem du{o:O2}(ho:o≠.add)(hm:o≠.mul){da db d:D}(h:op2 o da db=.ok d):∃i j,da=.int i/\db=.int j/\opI o i j=.ok d:=by
 unfold op2 at h;split at h
 ·exact⟨_,_,rfl,rfl,h⟩
 ·rw[if_neg (λz=>ho z.1)]at h;cases h
 ·rw[if_neg (λz=>ho z.1)]at h;cases h
 ·cases h
theorem lO{j:Int}(h:small j=true):-(2^64)<j/\j<2^64:=by simpa[small]using h
theorem lG{n:Nat}(h:n<=SZ):n<=sizeLine:=aZ h (by rw[a0];decide)
theorem log2_small{j:Int}(h1:0<j)(h2:j<1000000000000000000000000000000):j.natAbs.log2<9000:=by
 have h3:j.natAbs<2^100:=by
  have:(2:Nat)^100=1267650600228229401496703205376:=by decide +kernel
  rw[this];lia
 have:=(Nat.log2_lt (n:=j.natAbs) (k:=100) (by lia)).mpr h3;lia
theorem AA:OpR X (bq .FloorDiv) (rI (λ_ j=>0<j/\j<1000000000000000000000000000000) λi j=>.int (i/j)):=L2.opI λi j _ _ _ _ _ hc q=>by
 have h1:(0:Int)<j:=hc.1;exact floordiv_int (by lia) (by rw[Int.fdiv_eq_ediv_of_nonneg i (by lia)];exact q) (.inl (PyProof.noPylong_of_log2 (log2_small hc.1 hc.2)))
theorem vH(hK:X.K=g.K){op:Operator}{o:O2}(h:o2 op=some o):OpR X (bq op) (rOp g o):=by
 have two:∀{f:ae->ae->Sem ae}{C:Int->Int->Prop}{q:Int->Int->Int} (o:O2),OpR X f (rI C λi j=>.int (q i j))->(∀da db d,op2 o da db=.ok d->∃i j,da=.int i/\db=.int j/\C i j/\d=.int (q i j))->OpR X f (rOp g o):=λo k e=>by
  refine OpR.imp k λx y H Q ⟨S,da,db,hs,ra,rb,m⟩=>?_
  cases e1:op2 o da db with
  |ok d=>
   rw[e1]at m;obtain⟨i,j,rfl,rfl,c,rfl⟩:=e da db d e1;exact⟨i,j,ra.int,rb.int,c,m _ _ (qe.refl _) (.int _) (λz=>nomatch z)⟩
  |ex c=>rw[e1]at m;exact m.elim
  |no=>rw[e1]at m;exact m.elim
 have two0:∀{f:ae->ae->Sem ae}{q:Int->Int->Int} (o:O2),OpR X f (rI0 λi j=>.int (q i j))->(∀da db d,op2 o da db=.ok d->∃i j,da=.int i/\db=.int j/\d=.int (q i j))->OpR X f (rOp g o):=λ{f q} o k e=>
  two (C:=λ_ _=>True) (q:=q) o (OpR.imp k λx y H Q ⟨i,j,h1,h2,_,h3⟩=>⟨i,j,h1,h2,h3⟩) λda db d h=>by
   obtain⟨i,j,h1,h2,h3⟩:=e da db d h;exact⟨i,j,h1,h2,trivial,h3⟩
 cases op<;>simp only[o2,bN]at h<;>first|subst h|cases h
 ·-- Add
  refine OpR.imp (Aq.or (xk.or ye)) λx y H Q ⟨S,da,db,hs,ra,rb,m⟩=>?_
  cases da with
  |int i=>
   cases db with
   |int j=>exact .inl ⟨i,j,ra.int,rb.int,m _ _ (qe.refl _) (.int _) (λz=>nomatch z)⟩
   |_=>exact m.elim
  |tup xs=>
   cases db with
   |tup ys=>
    simp only[op2,true_and]at m;split at m
    ·rename_i e
     split at e<;>cases e
     rename_i hz
     obtain⟨a,vs,rfl,h1,r1⟩:=ra.tup;obtain⟨b,us,rfl,h2,r2⟩:=rb.tup;refine .inr (.inl ⟨a,b,vs,us,rfl,rfl,by rw[hK];exact h1,by rw[hK];exact h2,by rw[<-r1.length,<-r2.length];exact lG hz,λe=>?_,λ_ e=>?_,λ_ _ p hp=>?_⟩)
     ·subst e;cases r1;exact m _ _ (qe.refl _) (rb.strong (by intro _ z;cases z)) (λz=>nomatch z)
     ·subst e;cases r2;rw[List.append_nil]at m;exact m _ _ (qe.refl _) (ra.strong (by intro _ z;cases z)) (λz=>nomatch z)
     ·exact m _ _ (zk hp) (eT hs hp (r1.append r2)) (λz=>nomatch z)
    ·exact m.elim
   |_=>exact m.elim
  |lst xs=>
   cases db with
   |lst ys=>
    simp only[op2,true_and]at m;split at m
    ·rename_i e
     split at e<;>cases e
     rename_i hz
     obtain⟨a,vs,rfl,h1,r1⟩:=ra.lst;obtain⟨b,us,rfl,h2,r2⟩:=rb.lst;refine .inr (.inr ⟨a,b,vs,us,rfl,rfl,by rw[hK];exact h1,by rw[hK];exact h2,by rw[<-r1.length,<-r2.length];exact lG hz,λp hp=>?_⟩);exact m _ _ (zk hp) (el hs hp (r1.append r2)) (λ_=>eV (qe.refl _) hp (r1.append r2))
    ·exact m.elim
   |_=>exact m.elim
  |_=>exact m.elim
 ·exact two0 .sub AH λda db d h=>by obtain⟨i,j,rfl,rfl,h'⟩:=du (by decide) (by decide) h;clear h;rename _=>h;cases h;exact⟨_,_,rfl,rfl,rfl⟩
 ·refine OpR.imp tj λx y H Q ⟨S,da,db,hs,ra,rb,m⟩=>?_
  cases e1:op2 .mul da db with
  |ok d=>
   rw[e1]at m;unfold op2 at e1;split at e1
   ·simp only[opI]at e1;split at e1
    ·rename_i i j hc
     cases e1;refine⟨i,j,ra.int,rb.int,?_,m _ _ (qe.refl _) (.int _) (λz=>nomatch z)⟩;rcases(by simpa using hc)with z|z
     ·exact .inl (lO z)
     ·exact .inr (lO z)
    ·cases e1
   ·rw[if_neg (λz=>nomatch z.1)]at e1;cases e1
   ·rw[if_neg (λz=>nomatch z.1)]at e1;cases e1
   ·cases e1
  |ex c=>rw[e1]at m;exact m.elim
  |no=>rw[e1]at m;exact m.elim
 ·exact two .mod p9 λda db d h=>by obtain⟨i,j,rfl,rfl,h'⟩:=du (by decide) (by decide) h;clear h;rename _=>h;simp only[opI]at h;split at h<;>cases h;rename_i hc;exact⟨_,_,rfl,rfl,hc,rfl⟩
 ·exact two .pow yK λda db d h=>by obtain⟨i,j,rfl,rfl,h'⟩:=du (by decide) (by decide) h;clear h;rename _=>h;simp only[opI]at h;split at h<;>cases h;rename_i hc;exact⟨_,_,rfl,rfl,hc,rfl⟩
 ·exact two .shl vk λda db d h=>by obtain⟨i,j,rfl,rfl,h'⟩:=du (by decide) (by decide) h;clear h;rename _=>h;simp only[opI]at h;split at h<;>cases h;rename_i hc;exact⟨_,_,rfl,rfl,hc,rfl⟩
 ·exact two .shr xu λda db d h=>by obtain⟨i,j,rfl,rfl,h'⟩:=du (by decide) (by decide) h;clear h;rename _=>h;simp only[opI]at h;split at h<;>cases h;rename_i hc;exact⟨_,_,rfl,rfl,hc,rfl⟩
 ·exact two0 .bor uh λda db d h=>by obtain⟨i,j,rfl,rfl,h'⟩:=du (by decide) (by decide) h;clear h;rename _=>h;cases h;exact⟨_,_,rfl,rfl,rfl⟩
 ·exact two0 .bxor o7 λda db d h=>by obtain⟨i,j,rfl,rfl,h'⟩:=du (by decide) (by decide) h;clear h;rename _=>h;cases h;exact⟨_,_,rfl,rfl,rfl⟩
 ·exact two0 .band yd λda db d h=>by obtain⟨i,j,rfl,rfl,h'⟩:=du (by decide) (by decide) h;clear h;rename _=>h;cases h;exact⟨_,_,rfl,rfl,rfl⟩
 ·exact two .fdiv AA λda db d h=>by obtain⟨i,j,rfl,rfl,h'⟩:=du (by decide) (by decide) h;clear h;rename _=>h;simp only[opI]at h;split at h<;>cases h;rename_i hc;exact⟨_,_,rfl,rfl,hc,rfl⟩
theorem fW(hK:X.K=g.K){pins:List (Addr×Obj)}{σ:L2.St}{H:Hp}{s:af}(I:Inv X pins σ H s){d:D}{v:V}{u:ae}(r:Rep g H d v)(a:d.asks=true)(ru:RelV v u):∃as,Reads s.heap u d.py as/\d.py.canLay0=true/\d.py.depth<=20:=by
 obtain⟨h1,h2⟩:=fP.mp a;have h:=r.data h1;rw[<-hK]at h;obtain⟨as,q⟩:=I.reads h ru;exact⟨as,q,lq h1,by rw[nQ];exact h2⟩
theorem lL:∀(a b:List Int),dr a b=HT.lexLt a b
 | [],[]=>by simp[dr,HT.lexLt]
 | [],_::_=>by simp[dr,HT.lexLt]
 |_::_,[]=>by simp[dr,HT.lexLt]
 |a::r,b::t=>by
  simp only[dr,HT.lexLt];rw[lL r t]
  try (by_cases h:a=b<;>simp[h])
noncomputable def rCm(g:Gc)(c:C2):R2:=λx y H Q=>∃S da db,zq g H S da x/\zq g H S db y /\
 match ql c da db with
 | .ok b=>Q (.bl b) H
 |_=>False
open Classical in
noncomputable def dn(h:Heap)(q:PyData)(u:ae):Bool:=if e:∃d as,Reads h u d as then PyData.eqv e.choose q else false
theorem mB{h:Heap}{q d:PyData}{u:ae}{as:List Addr}(r:Reads h u d as):dn h q u=PyData.eqv d q:=by
 have e:∃d as,Reads h u d as:=⟨d,as,r⟩
 unfold dn;rw[dif_pos e];obtain⟨bs,r'⟩:=e.choose_spec;rw[(PySem.Reads.unique r' d as r).1]
theorem any_eq(hK:X.K=g.K){pins:List (Addr×Obj)}{σ:L2.St}{H:Hp}{s:af}(I:Inv X pins σ H s){da:D}(ha:da.asks=true){ds:List D}:∀{vs:List V}{us:List ae},qt g H ds vs->Vals vs us->ds.all D.asks=true ->
  us.any (dn s.heap da.py)=inD da ds/\∀u∈us,∃d as,Reads s.heap u d as/\d.canLay0=true/\d.depth<=20:=by
 induction ds with
 |nil=>intro vs us h r _;cases h;cases r;exact⟨rfl,λu h=>nomatch h⟩
 |cons d ds ih=>
  intro vs us h q e;cases h with
  |cons h r=>cases q with
   |cons q t=>
    rw[List.all_cons,aJ]at e;obtain⟨as,h1,h2,h3⟩:=fW hK I h e.1 q;obtain⟨i1,i2⟩:=ih r t e.2;refine⟨?_,λu hu=>?_⟩
    ·rw[List.any_cons,i1,mB h1,iB _ _ (fP.mp e.1).1 (fP.mp ha).1]
     rfl
    ·rcases aG.mp hu with rfl|hu
     ·exact⟨_,as,h1,h2,h3⟩
     ·exact i2 u hu
theorem tX{A:aw}{s:af}{u v:ae}{d:PyData}{as:List Addr}{q:PyData}{bs:List Addr}(hu:A.units+60<cLine)(r:Reads s.heap u d as)(r':Reads s.heap v q bs)(h1:d.canLay0=true)(h2:q.canLay0=true)(h3:d.depth<=20):SeqAt.EqAt A.in1 s u v (dn s.heap q u):=by
 rw[mB r];refine SeqAt.eqAt_reads d q A.in1 s u v as bs r r' h1 h2 ?_;have:min d.depth q.depth<=d.depth:=Nat.min_le_left _ _;show A.units+1+_<_;lia
theorem j'(hK:X.K=g.K)(hu:X.A.units+64<cLine)(neg:Bool):OpR X (aQ (if neg then .NotIn else .In)) (λx y H Q=>∃S da db ds,zq g H S da x/\zq g H S db y/\seq? db=some ds/\da.asks=true/\ds.all D.asks=true/\Q (.bl (if neg then !inD da ds else inD da ds)) H):=by
 intro pins s σ H x y v u Q I rx ry h;obtain⟨S,da,db,ds,ra,rb,es,aa,ad,q⟩:=h;obtain⟨as,h1,h2,h3⟩:=fW hK I ra.rep aa rx;obtain⟨a,vs,rfl,hsq,rr⟩:=rb.seq es;cases ry;have go:∀{its:List ae},Vals vs its->(∀w∈its.toArray,SeqAt.EqAt X.A.in1 s w v (dn s.heap da.py w))/\its.toArray.any (dn s.heap da.py)=inD da ds:=λ{its} rv=>by
  obtain⟨i1,i2⟩:=any_eq hK I aa (rr.mono zt) rv ad;refine⟨λw hw=>?_,by simpa using i1⟩;obtain⟨d,bs,r1,r2,r3⟩:=i2 w (by simpa using hw);exact tX (Nat.lt_of_le_of_lt (Nat.add_le_add_left (by decide) _) hu) r1 h1 r2 h2 r3
 rcases hsq with hsq|hsq
 ·obtain⟨its,rv,pl,_⟩:=I.list (by rw[hK];exact hsq);obtain⟨g1,g2⟩:=go rv;cases neg with
  |false=>exact SeqAt.in_listAt (dn s.heap da.py) pl.isList g1 ⟨.bl _,H,I,rfl,by rw[g2];exact q⟩
  |true=>exact SeqAt.notIn_listAt (dn s.heap da.py) pl.isList g1 ⟨.bl _,H,I,rfl,by rw[g2];exact q⟩
 ·obtain⟨its,rv,pl,_⟩:=I.tuple (by rw[hK];exact hsq);obtain⟨g1,g2⟩:=go rv;cases neg with
  |false=>exact SeqAt.in_tupleAt (dn s.heap da.py) pl g1 ⟨.bl _,H,I,rfl,by rw[g2];exact q⟩
  |true=>exact SeqAt.notIn_tupleAt (dn s.heap da.py) pl g1 ⟨.bl _,H,I,rfl,by rw[g2];exact q⟩
theorem kP(hK:X.K=g.K)(hu:X.A.units+64<cLine)(neg:Bool):OpR X (aQ (if neg then .NotEq else .Eq)) (λx y H Q=>∃S da db,zq g H S da x/\zq g H S db y/\da.asks=true/\db.asks=true/\Q (.bl (if neg then !da.eqv db else da.eqv db)) H):=by
 intro pins s σ H x y v u Q I rx ry h;obtain⟨S,da,db,ra,rb,aa,ab,q⟩:=h;obtain⟨as,h1,h2,h3⟩:=fW hK I ra.rep aa rx;obtain⟨bs,k1,k2,k3⟩:=fW hK I rb.rep ab ry;have e:=iB da db (fP.mp aa).1 (fP.mp ab).1;have room:X.A.units+min da.py.depth db.py.depth<cLine:=by
  have:min da.py.depth db.py.depth<=da.py.depth:=Nat.min_le_left _ _;lia
 cases neg with
 |false=>exact SeqAt.compareEq_reads h1 k1 h2 k2 room ⟨.bl _,H,I,by rw[e];rfl,q⟩
 |true=>exact SeqAt.compareNe_reads h1 k1 h2 k2 room ⟨.bl _,H,I,by rw[e];rfl,q⟩
theorem zq.non_iff{S:Sh}{H:Hp}{d:D}{v:V}(r:zq g H S d v):decide (v=.non)=ef d:=by
 cases r.rep<;>rfl
theorem c_{op:CmpOp}{c:C2}{r:R2}(h:OpR X (aQ op) r)(k:∀S da db b x y H Q,zq g H S da x->zq g H S db y->ql c da db=.ok b->Q (.bl b) H->r x y H Q):OpR X (aQ op) (rCm g c):=by
 refine OpR.imp h λx y H Q ⟨S,da,db,ra,rb,m⟩=>?_
 cases e:ql c da db with
 |ok b=>rw[e]at m;exact k S da db b x y H Q ra rb e m
 |ex c'=>rw[e]at m;exact m.elim
 |no=>rw[e]at m;exact m.elim
theorem rm:OpR X (aQ .Is) (λx y H Q=>∃a b,x=.bl a/\y=.bl b/\Q (.bl (a==b)) H):=by
 intro pins s σ H x y v u Q I rx ry h;obtain⟨a,b,rfl,rfl,q⟩:=h;cases rx;cases ry;exact is_bool (gP I q rfl)
theorem sY:OpR X (aQ .IsNot) (λx y H Q=>∃a b,x=.bl a/\y=.bl b/\Q (.bl (!(a==b))) H):=by
 intro pins s σ H x y v u Q I rx ry h;obtain⟨a,b,rfl,rfl,q⟩:=h;cases rx;cases ry;exact isnot_bool (gP I q rfl)
theorem lV{n:Bool}{a b:EV.D}{c:Bool}(h:isB n a b=.ok c):∃x y,a=.bl x/\b=.bl y/\c=(n != (x==y)):=by
 unfold isB at h;split at h
 ·cases h;exact⟨_,_,rfl,rfl,rfl⟩
 ·cases h
theorem cV(hK:X.K=g.K)(hu:X.A.units+64<cLine)(op:CmpOp):OpR X (aQ op) (rCm g (c2 op)):=by
 cases op
 ·exact c_ (kP hK hu false) λS da db b x y H Q ra rb e q=>by
   simp only[c2,ql]at e;split at e<;>cases e
   rename_i a
   simp only[aJ]at a;exact⟨S,da,db,ra,rb,a.1,a.2,q⟩
 ·exact c_ (kP hK hu true) λS da db b x y H Q ra rb e q=>by
   simp only[c2,ql]at e;split at e<;>cases e
   rename_i a
   simp only[aJ]at a;exact⟨S,da,db,ra,rb,a.1,a.2,q⟩
 ·exact c_ (wA.or (pL (by lia))) λS da db b x y H Q ra rb e q=>by
   simp only[c2]at e;cases da with
   |int i=>
    cases db with
    |int j=>cases e;exact .inl ⟨i,j,ra.int,rb.int,q⟩
    |_=>cases e
   |tup xs=>
    cases db with
    |tup ys=>
     simp only[ql]at e;split at e
     ·rename_i ns ms e1 e2
      cases e;obtain⟨a,vs,rfl,h1,r1⟩:=ra.tup;obtain⟨b,us,rfl,h2,r2⟩:=rb.tup;obtain⟨rfl,_⟩:=r1.ints e1;obtain⟨rfl,_⟩:=r2.ints e2;exact .inr ⟨a,b,ns,ms,rfl,rfl,by rw[hK];exact h1,by rw[hK];exact h2,lL ns ms▸q⟩
     ·cases e
    |_=>cases e
   |_=>cases db<;>cases e
 ·exact c_ oN λS da db b x y H Q ra rb e q=>by
   cases da with
   |int i=>
    cases db with
    |int j=>cases e;exact⟨_,_,ra.int,rb.int,q⟩
    |_=>cases e
   |_=>cases e
 ·exact c_ tJ λS da db b x y H Q ra rb e q=>by
   cases da with
   |int i=>
    cases db with
    |int j=>cases e;exact⟨_,_,ra.int,rb.int,q⟩
    |_=>cases e
   |_=>cases e
 ·exact c_ ui λS da db b x y H Q ra rb e q=>by
   cases da with
   |int i=>
    cases db with
    |int j=>cases e;exact⟨_,_,ra.int,rb.int,q⟩
    |_=>cases e
   |_=>cases e
 ·exact c_ (uK.or rm) λS da db b x y H Q ra rb e q=>by
   simp only[c2,ql]at e;split at e
   ·rename_i hd
    cases e;have hd:db=.non:=by cases db<;>first|rfl|cases hd
    subst hd;cases rb.rep;exact .inl ⟨rfl,by rw[ra.non_iff];exact q⟩
   ·obtain⟨a,c,rfl,rfl,rfl⟩:=lV e;cases ra.rep;cases rb.rep;exact .inr ⟨a,c,rfl,rfl,by cases a<;>cases c<;>exact q⟩
 ·exact c_ (uf.or sY) λS da db b x y H Q ra rb e q=>by
   simp only[c2,ql]at e;split at e
   ·rename_i hd
    cases e;have hd:db=.non:=by cases db<;>first|rfl|cases hd
    subst hd;cases rb.rep;exact .inl ⟨rfl,by rw[ra.non_iff];exact q⟩
   ·obtain⟨a,c,rfl,rfl,rfl⟩:=lV e;cases ra.rep;cases rb.rep;exact .inr ⟨a,c,rfl,rfl,by cases a<;>cases c<;>exact q⟩
 ·exact c_ (j' hK hu false) λS da db b x y H Q ra rb e q=>by
   simp only[c2,ql]at e;split at e
   ·rename_i xs es
    split at e<;>cases e
    rename_i a
    simp only[aJ]at a;exact⟨S,da,db,xs,ra,rb,es,a.1,a.2,q⟩
   ·cases e
 ·exact c_ (j' hK hu true) λS da db b x y H Q ra rb e q=>by
   simp only[c2,ql]at e;split at e
   ·rename_i xs es
    split at e<;>cases e
    rename_i a
    simp only[aJ]at a;exact⟨S,da,db,xs,ra,rb,es,a.1,a.2,q⟩
   ·cases e
end
abbrev dN(g:Gc)(H:Hp)(S:Sh):List D->List V->Prop:=Paired (zq g H S)
section
variable{X:Cx}{g:Gc}
theorem nS{H:Hp}{ds:List D}{vs:List V}{i:Int}{d:D}(r:qt g H ds vs)(e:atI ds i=some d):∃v,atI vs i=some v/\Rep g H d v:=by
 unfold atI at e ⊢;rw[<-r.length];cases q:ixN ds.length i with
 |none=>rw[q]at e;cases e
 |some j=>rw[q]at e;exact r.get e
noncomputable def yq(g:Gc):R2:=λx y H Q=>∃S da db,zq g H S da x/\zq g H S db y /\
 match ixD da db with
 | .ok d=>∀v,Rep g (hid H S) d v->Q v H
 |_=>False
theorem wB(hK:X.K=g.K):IxR X (yq g):=by
 have k:IxR X (λx y H Q=>nr X.K x y H Q\/lS X.K x y H Q):=yQ.or yI;intro value slice pins s σ H x y v u Q I rx ry h hs;refine k value slice pins s σ H x y v u Q I rx ry ?_ hs;obtain⟨S,da,db,ra,rb,m⟩:=h;cases da with
 |tup xs=>
  cases db with
  |int i=>
   simp only[ixD]at m;cases e:atI xs i with
   |none=>rw[e]at m;exact m.elim
   |some d=>
    rw[e]at m;obtain⟨a,vs,rfl,h1,r1⟩:=ra.tup;obtain⟨w,h2,h3⟩:=nS r1 e;exact .inr ⟨a,vs,i,w,rfl,rb.int,by rw[hK];exact h1,h2,m w h3⟩
  |_=>exact m.elim
 |lst xs=>
  cases db with
  |int i=>
   simp only[ixD]at m;cases e:atI xs i with
   |none=>rw[e]at m;exact m.elim
   |some d=>
    rw[e]at m;obtain⟨a,vs,rfl,h1,r1⟩:=ra.lst;obtain⟨w,h2,h3⟩:=nS r1 e;exact .inl ⟨a,vs,i,w,rfl,rb.int,by rw[hK];exact h1,h2,m w h3⟩
  |_=>exact m.elim
 |_=>exact m.elim
noncomputable def xE(g:Gc):V->Option Int->Option Int->Hp->VK->Prop:=λx lo hi H Q=>∃S da,Sub S H/\zq g H S da x /\
 match slD da lo hi with
 | .ok d=>∀v H',qe H H'->Rep g (hid H' S) d v->Q v H'
 |_=>False
theorem kA{H:Hp}{ds:List D}{vs:List V}(r:qt g H ds vs)(lo hi:Option Int):qt g H (cutD ds lo hi) (dW vs lo hi):=by
 unfold cutD dW;rw[r.length];exact(r.drop _).take _
theorem yO(hK:X.K=g.K):SlR X (xE g):=by
 intro pins s σ H x v vl vu lo hi sl Q I rx hs pl pu h;obtain⟨S,da,hS,ra,m⟩:=h;cases da with
 |lst xs=>
  obtain⟨a,vs,rfl,h1,r1⟩:=ra.lst;exact xi pins s σ H _ v vl vu lo hi sl Q I rx hs pl pu ⟨a,vs,rfl,by rw[hK];exact h1,λp hp=>m _ _ (zk hp) (el hS hp (kA r1 lo hi))⟩
 |tup xs=>
  obtain⟨a,vs,rfl,h1,r1⟩:=ra.tup;simp only[slD]at m;by_cases hw:HT.sIx xs.length 0 lo=0/\HT.sIx xs.length xs.length hi=xs.length
  ·have e:cutD xs lo hi=xs:=by unfold cutD;rw[hw.1,hw.2];simp
   rw[e]at m;rw[r1.length]at hw;exact ve pins s σ H _ v vl vu lo hi sl Q I rx hs pl pu ⟨a,vs,rfl,by rw[hK];exact h1,hw.1,hw.2,m _ _ (qe.refl _) (ra.strong (by intro _ z;cases z))⟩
  ·rw[r1.length]at hw;exact pK pins s σ H _ v vl vu lo hi sl Q I rx hs pl pu ⟨a,vs,rfl,by rw[hK];exact h1,hw,λp hp=>m _ _ (zk hp) (eT hS hp (kA r1 lo hi))⟩
 |_=>exact m.elim
noncomputable def b1V:B1->ae
 | .len=>.builtin "len"
 | .tuple=>.type "tuple"
 | .list=>.type "list"
 | .sorted=>.builtin "sorted"
 | .all=>.builtin "all"
 | .any=>.builtin "any"
 | .sum=>.builtin "sum"
 | .min=>.builtin "min"
 | .max=>.builtin "max"
 | .abs=>.builtin "abs"
 | .int=>.type "int"
 | .bool=>.type "bool"
noncomputable def rB1(g:Gc)(b:B1):List V->Hp->VK->Prop:=λvs H Q=>∃S ds,Sub S H/\dN g H S ds vs /\
 match b1 b ds with
 | .ok d=>∀v H',qe H H'->Rep g (hid H' S) d v->(b=.list\/b=.sorted->Fr g H S H' d v)->Q v H'
 |_=>False
theorem zg.imp{f:ae}{r r':List V->Hp->VK->Prop}(h:zg X f r)(i:∀xs H Q,r' xs H Q->r xs H Q):zg X f r':=
 λpins s σ H xs us Q I rv q=>h pins s σ H xs us Q I rv (i _ _ _ q)
theorem eh{f:ae}{b:B1}{r:List V->Hp->VK->Prop}(h:zg X f r)
  (k:∀S ds d vs H Q,Sub S H->dN g H S ds vs->b1 b ds=.ok d->(∀v H',qe H H'->Rep g (hid H' S) d v->(b=.list\/b=.sorted->Fr g H S H' d v)->Q v H')->r vs H Q):zg X f (rB1 g b):=by
 refine zg.imp h λvs H Q ⟨S,ds,hs,rs,m⟩=>?_
 cases e:b1 b ds with
 |ok d=>rw[e]at m;exact k S ds d vs H Q hs rs e m
 |ex c=>rw[e]at m;exact m.elim
 |no=>rw[e]at m;exact m.elim
theorem gM{f:ae}{b:B1}(h1:∀d,b11 b d=.no)(h2:∀d e,b12 b d e=.no):zg X f (rB1 g b):=λpins s σ H xs us Q I rv ⟨S,ds,hs,rs,m⟩=>by
 have e:b1 b ds=.no:=by
  unfold b1;split
  ·exact h1 _
  ·exact h2 _ _
  ·rfl
 rw[e]at m;exact m.elim
theorem iO{b:B1}(hb:∀x y,b12 b x y=.no){ds:List D}{d:D}(h:b1 b ds=.ok d):∃x,ds=[x]/\b11 b x=.ok d:=by
 match ds,h with
 | [x],h=>exact⟨x,rfl,h⟩
 | [x,y],h=>have h:b12 b x y=.ok d:=h;rw[hb]at h;cases h
 | [],h=>cases h
 |_::_::_::_,h=>cases h
theorem jg{x r:D}{k:List D->R D}(h:cG x k=.ok r):∃xs,x=.lst xs/\k xs=.ok r:=by
 cases x with
 |lst xs=>exact⟨xs,rfl,h⟩
 |_=>cases h
theorem lD{x y r:D}{k:Int->Int->R D}(h:iiR x y k=.ok r):∃i j,x=.int i/\y=.int j/\k i j=.ok r:=by
 cases x with
 |int i=>
  cases y with
  |int j=>exact⟨i,j,rfl,rfl,h⟩
  |_=>cases h
 |_=>cases h
theorem iE{α β:Type}{o:Option α}{k:α->R β}{r:β}(h:b5 o k=.ok r):∃a,o=some a/\k a=.ok r:=by
 cases o with
 |some a=>exact⟨a,rfl,h⟩
 |none=>cases h
theorem jf{b:B1}{ds:List D}{d:D}{q:List D->R D}(h:b1 b ds=.ok d)(e:∀x,b1 b [x]=b5 (seq? x) q)(n:ds.length≠1->b1 b ds=.no):∃x xs,ds=[x]/\seq? x=some xs/\q xs=.ok d:=by
 match ds with
 | []=>rw[n (by simp)]at h;cases h
 | [x]=>
  rw[e]at h;cases z:seq? x with
  |none=>rw[z]at h;cases h
  |some xs=>rw[z]at h;exact⟨x,xs,rfl,z,h⟩
 |x::y::r=>rw[n (by simp)]at h;cases h
theorem sf(hK:X.K=g.K):zg X (.builtin "len") (rB1 g .len):=eh vD λS ds d vs H Q hs rs h q=>by
 obtain⟨x,xs,rfl,e,h⟩:=jf (q:=λxs=>.ok (.int xs.length)) h (λ_=>rfl) (λn=>by match ds,n with | [],_=>rfl | [_,_],_=>rfl|_::_::_::_,_=>rfl);cases h;cases rs with
 |cons r rs=>
  cases rs;obtain⟨a,us,rfl,h1,r1⟩:=r.seq e;exact⟨a,us,rfl,by rw[hK];exact h1,by rw[<-r1.length];exact q _ _ (qe.refl _) (.int _) (by simp)⟩
theorem uV(hK:X.K=g.K):zg X (.type "tuple") (rB1 g .tuple):=eh tF λS ds d vs H Q hs rs h q=>by
 obtain⟨x,xs,rfl,e,h⟩:=jf (q:=λxs=>.ok (.tup xs)) h (λ_=>rfl) (λn=>by match ds,n with | [],_=>rfl | [_,_],_=>rfl|_::_::_::_,_=>rfl);cases h;cases rs with
 |cons r rs=>
  cases rs;cases x with
  |lst ys=>
   cases e;obtain⟨a,us,rfl,h1,r1⟩:=r.lst;exact⟨a,us,rfl,.inl ⟨by rw[hK];exact h1,λp hp=>q _ _ (zk hp) (eT hs hp r1) (by simp)⟩⟩
  |tup ys=>
   cases e;have z:=r.strong (by intro _ z;cases z);obtain⟨a,us,rfl,h1,r1⟩:=r.tup;exact⟨a,us,rfl,.inr ⟨by rw[hK];exact h1,q _ _ (qe.refl _) z (by simp)⟩⟩
  |_=>cases e
theorem tY(hK:X.K=g.K):zg X (.type "list") (rB1 g .list):=eh y8 λS ds d vs H Q hs rs h q=>by
 obtain⟨x,xs,rfl,e,h⟩:=jf (q:=λxs=>.ok (.lst xs)) h (λ_=>rfl) (λn=>by match ds,n with | [],_=>rfl | [_,_],_=>rfl|_::_::_::_,_=>rfl);cases h;cases rs with
 |cons r rs=>
  cases rs;obtain⟨a,us,rfl,h1,r1⟩:=r.seq e;exact⟨a,us,rfl,by rw[hK];exact h1,λp hp=>q _ _ (zk hp) (el hs hp r1) λ_=>eV (qe.refl _) hp r1⟩
theorem sh(hc:X.calm=true)(al:Bool):zg X (.builtin (if al then "all" else "any")) (λxs H Q=>∃(l:Addr) (bs:List Bool),xs=[.ref l]/\SqL X.K H l (bs.map V.bl)/\Q (.bl (if al then bs.all id else bs.any id)) H):=by
 intro pins s σ H xs us Q I r h;obtain⟨l,bs,rfl,hl,q⟩:=h;obtain⟨u,rfl,ru⟩:=r.one;cases ru;obtain⟨its,rv,pl,hz⟩:=I.list hl;have e:=iD (A:=X.A) rv;subst e;have hlt:l<s.heap.objs.size:=by obtain⟨_,e,_⟩:=pl.isList;exact aC e
 have tr:TruthOf X.prog X.w X.A.in1 (λi v=>(bs.map bp).toArray[i]? = some v) (λi=>(bs[i]?).getD al):=λi v s' Q' E' hP hQ=>by
  have hv:(bs.map bp)[i]? = some v:=by simpa using hP
  rw[List.getElem?_map]at hv;cases e:bs[i]? with
  |none=>rw[e]at hv;cases hv
  |some b=>
   rw[e]at hv;cases hv;simp only[e,Option.getD_some]at hQ;exact bB hQ
 have wk:=Walks.list (prog:=X.prog) (w:=X.w) (A:=X.A.in1) (I.ok.hd hc) s.heap.objs.size l (aS hlt) (bs.map bp).toArray;cases al with
 |true=>
  refine call_all_walk (wpAny_pyIter_list pl.isList ?_);refine⟨s.heap.objs.size,[s.heap.objs.size,l],[s.heap.objs.size],_,_,_,_,rfl,wk,⟨⟨_,Heap.get?_push_size _ rfl,rfl,rfl⟩,pl.isList.push _⟩,tr,λh' tk hk=>?_⟩;have e:((aV (bs.map bp).toArray.size).all λi=>(bs[i]?).getD true)=bs.all id:=by
   rw[aO,aW];exact LSm.range_all bs
  rw[e];exact⟨.bl _,H,I.kept (LSm.kept_iter hk),rfl,q⟩
 |false=>
  refine call_any_walk (wpAny_pyIter_list pl.isList ?_);refine⟨s.heap.objs.size,[s.heap.objs.size,l],[s.heap.objs.size],_,_,_,_,rfl,wk,⟨⟨_,Heap.get?_push_size _ rfl,rfl,rfl⟩,pl.isList.push _⟩,tr,λh' tk hk=>?_⟩;have e:((aV (bs.map bp).toArray.size).any λi=>(bs[i]?).getD false)=bs.any id:=by
   rw[aO,aW,Bool.eq_iff_iff];simp only[List.any_eq_true,List.mem_range,id];constructor
   ·rintro⟨i,hi,e⟩;rw[List.getElem?_eq_getElem hi]at e;exact⟨_,List.getElem_mem hi,e⟩
   ·rintro⟨b,hb,e⟩;obtain⟨i,hi,rfl⟩:=List.getElem_of_mem hb;exact⟨i,hi,by rw[List.getElem?_eq_getElem hi];exact e⟩
  rw[e];exact⟨.bl _,H,I.kept (LSm.kept_iter hk),rfl,q⟩
theorem nV(hK:X.K=g.K)(hc:X.calm=true)(al:Bool):zg X (.builtin (if al then "all" else "any")) (rB1 g (if al then .all else .any)):=eh (sh hc al) λS ds d vs H Q hs rs h q=>by
 obtain⟨xs,bs,rfl,e,rfl⟩:∃xs bs,ds=[.lst xs]/\bools? xs=some bs/\d=.bl (if al then bs.all id else bs.any id):=by
  cases al
  ·obtain⟨x,rfl,h'⟩:=iO (λ_ _=>rfl) h;obtain⟨xs,rfl,h'⟩:=jg h';obtain⟨bs,e,h'⟩:=iE h';cases h';exact⟨xs,bs,rfl,e,rfl⟩
  ·obtain⟨x,rfl,h'⟩:=iO (λ_ _=>rfl) h;obtain⟨xs,rfl,h'⟩:=jg h';obtain⟨bs,e,h'⟩:=iE h';cases h';exact⟨xs,bs,rfl,e,rfl⟩
 cases rs with
 |cons r rs=>
  cases rs;obtain⟨a,us,rfl,h1,r1⟩:=r.lst;have e2:=r1.bools e;subst e2;exact⟨a,bs,rfl,by rw[hK];exact h1,q _ _ (qe.refl _) (.bl _) (by cases al<;>simp)⟩
end
end EV
namespace TS
open PySem PyProof.Rows
structure Cmp(prog:av)(w:au)(A:aw)(s:af)(κ:SortKind)(D:aA->Prop)(LT:aA->aA->Bool):Prop where
 lt:∀x y,D x->D y->∀Q:Bool->af->Prop,Q (LT x y) s->ai (aj prog w) A (keyLt' κ x.1 y.1) Q (λ_ _=>False) s
 asym:∀x y,LT x y=true->LT y x=false
 neg:∀x y z,LT y x=false->LT z y=false->LT z x=false
section
variable{prog:av}{w:au}{A:aw}{E:ae->af->Prop}{s:af}{κ:SortKind}{D:aA->Prop}{LT:aA->aA->Bool}
end
section
variable{LT:aA->aA->Bool}
noncomputable def Srt(LT:aA->aA->Bool)(l:List aA):Prop:=l.Pairwise λx y=>LT y x=false
abbrev df:Keyed:=(bf,bf)
noncomputable def at'(a:Array aA)(i:Nat):Keyed:=a.getD i df
structure MI(LT:aA->aA->Bool)(a b out:Array aA)(ia ib:Nat):Prop where
 pm:out.toList.Perm (a.toList.take ia++b.toList.take ib)
 sr:Srt LT out.toList
 la:∀x∈out.toList,∀j,ia<=j->j<a.size->LT (at' a j) x=false
 lb:∀x∈out.toList,∀j,ib<=j->j<b.size->LT (at' b j) x=false
variable{a b out:Array aA}{ia ib:Nat}
end
section
variable{prog:av}{w:au}{A:aw}{E:ae->af->Prop}{s:af}{κ:SortKind}{D:aA->Prop}{LT:aA->aA->Bool}
end
section
variable{LT:aA->aA->Bool}
structure MH(LT:aA->aA->Bool)(a b out:Array aA)(na nb:Nat):Prop where
 pm:out.toList.Perm (a.toList.drop na++b.toList.drop nb)
 sr:Srt LT out.toList.reverse
 la:∀x∈out.toList,∀j,j<na->LT x (at' a j)=false
 lb:∀x∈out.toList,∀j,j<nb->LT x (at' b j)=false
variable{a b out:Array aA}{na nb:Nat}
end
section
variable{prog:av}{w:au}{A:aw}{E:ae->af->Prop}{s:af}{κ:SortKind}{D:aA->Prop}{LT:aA->aA->Bool}
end
structure SB(κ:SortKind)(p:Array (Nat×Nat×Nat))(a₁:Array aA)(lo:Nat)(st:SortSt):Prop where
 kd:kindOf st=κ
 fl:failedOf st=none
 pn:pendingOf st=p
 pm:(arrOf st).Perm a₁
 lw:∀i,i<lo->at' (arrOf st) i=at' a₁ i
noncomputable def Kr(R:aA->Int)(xs:Array aA)(i:Nat):Int:=R (at' xs i)
noncomputable def Seg(R:aA->Int)(xs:Array aA)(lo n:Nat):Prop:=∀i j,i<=j->j<n->Kr R xs (lo+i)<=Kr R xs (lo+j)
noncomputable def Dsc(R:aA->Int)(xs:Array aA)(lo n:Nat):Prop:=∀i j,i<=j->j<n->Kr R xs (lo+j)<=Kr R xs (lo+i)
section
variable{prog:av}{w:au}{A:aw}{E:ae->af->Prop}{s:af}{κ:SortKind}{D:aA->Prop}{LT:aA->aA->Bool}{R:aA->Int}{p:Array (Nat×Nat×Nat)}{a₁:Array aA}{lo:Nat}
theorem SB.size{st:SortSt}(h:SB κ p a₁ lo st):(arrOf st).size=a₁.size:=h.pm.size_eq
end
section
variable{prog:av}{w:au}{A:aw}{E:ae->af->Prop}{s:af}{κ:SortKind}{D:aA->Prop}{LT:aA->aA->Bool}{R:aA->Int}{p:Array (Nat×Nat×Nat)}{a₁:Array aA}{lo:Nat}{xs:Array aA}
theorem Seg.one:Seg R xs lo 1:=λi j a b=>by rw[show i=j by lia];exact Int.le_refl _
theorem Dsc.one:Dsc R xs lo 1:=λi j a b=>by rw[show i=j by lia];exact Int.le_refl _
noncomputable def Flat(R:aA->Int)(xs:Array aA)(lo m neq:Nat):Prop:=∀i,lo+m-(neq+1)<=i->i<lo+m->Kr R xs i=Kr R xs (lo+m-1)
theorem Flat.zero{m:Nat}:Flat R xs lo m 0:=λi a b=>by rw[show i=lo+m-1 by lia]
end
section
variable{prog:av}{w:au}{A:aw}{E:ae->af->Prop}{s:af}{κ:SortKind}{D:aA->Prop}{LT:aA->aA->Bool}{R:aA->Int}{a₁:Array aA}
structure Rdy(R:aA->Int)(a₁:Array aA)(st:SortSt):Prop where
 pm:(arrOf st).Perm a₁
 fl:failedOf st=none
 sg:Seg R (arrOf st) 0 a₁.size
 pn:(pendingOf st).size<=1
end
section
variable{prog:av}{w:au}{A:aw}{E:ae->af->Prop}{s:af}
end
end TS
namespace TS
open PySem PySem.W PyProof.Rows
section
variable{M:Model}{A:aw}{E:ae->af->Prop}{s:af}
end
section
variable{M:Model}{A:aw}{E:ae->af->Prop}{s:af}
end
section
variable{prog:av}{w:au}{A:aw}{E:ae->af->Prop}{s:af}
end
end TS
namespace L2
open PySem PySem.Spec PyProof.Rows TS
end L2
namespace EV
open PySem PySem.Spec PySem.P PyProof.Rows L2
theorem insI_perm(i:Int):∀l,(insI i l).Perm (i::l)
 | []=>.refl _
 |j::r=>by
  unfold insI;split
  ·exact .refl _
  ·exact((insI_perm i r).cons j).trans (.swap ..)
theorem sortI_perm:∀l,(sortI l).Perm l
 | []=>.refl _
 |i::r=>(insI_perm i _).trans ((sortI_perm r).cons i)
theorem nh(i:Int):∀{l:List Int},l.Pairwise (·<=·)->(insI i l).Pairwise (·<=·)
 | [],_=>by simp[insI]
 |j::r,h=>by
  unfold insI;obtain⟨h1,h2⟩:=List.pairwise_cons.mp h;split
  ·rename_i hij
   refine List.pairwise_cons.mpr ⟨λx hx=>?_,h⟩;rcases aG.mp hx with rfl|hx
   ·exact hij
   ·exact Int.le_trans hij (h1 x hx)
  ·rename_i hij
   refine List.pairwise_cons.mpr ⟨λx hx=>?_,nh i h2⟩;rcases aG.mp ((insI_perm i r).mem_iff.mp hx)with rfl|hx
   ·lia
   ·exact h1 x hx
theorem l6:∀l:List Int,(sortI l).Pairwise (·<=·)
 | []=>.nil
 |i::r=>nh i (l6 r)
theorem jL{l m:List Int}(h1:m.Perm l)(h2:m.Pairwise (·<=·)):m=sortI l:=PySem.W.ksm_same (h1.trans (sortI_perm l).symm) h2 (l6 l)
theorem jC(p:Int×Int):∀l,(dR p l).Perm (p::l)
 | []=>.refl _
 |j::r=>by
  unfold dR;split
  ·exact((jC p r).cons j).trans (.swap ..)
  ·exact .refl _
theorem ko:∀l,(zl l).Perm l
 | []=>.refl _
 |i::r=>(jC i _).trans ((ko r).cons i)
theorem lX{a b:Int×Int}:ltP a b=true↔a.1<b.1\/(a.1=b.1/\a.2<b.2):=by
 unfold ltP;by_cases h:a.1=b.1
 ·simp[h]
 ·simp[h]
theorem i6{a b:Int×Int}:ltP a b=false↔b.1<a.1\/(a.1=b.1/\b.2<=a.2):=by
 rw[<-Bool.not_eq_true,lX];lia
theorem jS(p:Int×Int):∀{l:List (Int×Int)},l.Pairwise (λa b=>ltP b a=false)->(dR p l).Pairwise (λa b=>ltP b a=false)
 | [],_=>by simp[dR]
 |j::r,h=>by
  unfold dR;obtain⟨h1,h2⟩:=List.pairwise_cons.mp h;split
  ·rename_i hij
   rw[lX]at hij;refine List.pairwise_cons.mpr ⟨λx hx=>?_,jS p h2⟩;rcases aG.mp ((jC p r).mem_iff.mp hx)with rfl|hx
   ·rw[i6];lia
   ·exact h1 x hx
  ·rename_i hij
   have hij':ltP j p=false:=by simpa using hij
   refine List.pairwise_cons.mpr ⟨λx hx=>?_,h⟩;rcases aG.mp hx with rfl|hx
   ·exact hij'
   ·have:=h1 x hx;rw[i6]at this hij' ⊢;lia
theorem lH:∀l:List (Int×Int),(zl l).Pairwise (λa b=>ltP b a=false)
 | []=>.nil
 |i::r=>jS i (lH r)
theorem Af{l m:List (Int×Int)}(h1:m.Perm l)(h2:m.Pairwise (λa b=>ltP b a=false)):m=zl l:=
 (h1.trans (ko l).symm).eq_of_pairwise (λa b _ _ z1 z2=>by rw[i6]at z1 z2;exact Prod.ext (by lia) (by lia)) h2 (lH l)
theorem map_getD{α:Type}(d:α)(l:List α):(aV l.length).map (λi=>l.getD i d)=l:=by
 refine List.ext_getElem (by simp) λi h1 h2=>?_
 simp at h1;simp[h1]
theorem vF(ks:List (Int×Int)):(zN ks).map (λi=>ks.getD i (0,0))=zl ks:=by
 obtain⟨h1,h2⟩:=ug ks;refine Af ?_ h2;have:=h1.map λi=>ks.getD i (0,0)
 rw[map_getD]at this;exact this
section
variable{X:Cx}{g:Gc}
theorem qt.pairs{H:Hp}{ds:List D}:∀{vs:List V}{ps:List (Int×Int)},qt g H ds vs->pairs? ds=some ps->ds=ps.map pairD/\∃as:List Addr,vs=as.map V.ref/\as.length=ps.length/\∀(i:Nat) a p,as[i]? = some a->ps[i]? = some p->SqT g.K H a [.int p.1,.int p.2]:=by
 induction ds with
 |nil=>intro vs ps h e;cases h;cases e;exact⟨rfl,[],rfl,rfl,λi a p h=>by cases h⟩
 |cons d ds ih=>
  intro vs ps h e;have no:∀{P:Prop},pairs? (d::ds)=none->P:=λz=>by rw[z]at e;cases e
  cases h with
  |cons h t=>cases d with
   |tup xs=>cases xs with
    |nil=>exact no rfl
    |cons a xs=>cases a with
     |int x=>cases xs with
      |nil=>exact no rfl
      |cons b xs=>cases b with
       |int y=>cases xs with
        |cons _ _=>exact no rfl
        |nil=>
         obtain⟨ms,e1,rfl⟩:=bF.mp (show (pairs? ds).map ((x,y) :: ·)=some ps from e);obtain⟨h1,as,h2,h3,h4⟩:=ih t e1;cases h with
         | @tup a xs _ q r=>
          obtain⟨rfl,_⟩:=r.ints (ns:=[x,y]) rfl;refine⟨by rw[h1];rfl,a::as,by rw[h2];rfl,congrArg (· + 1) h3,λi b p hb hp=>?_⟩;cases i with
          |zero=>cases hb;cases hp;exact q
          |succ i=>exact h4 i b p hb hp
       |_=>exact no rfl
     |_=>exact no rfl
   |_=>exact no rfl
theorem pN(hK:X.K=g.K)(hu:X.A.units+64<cLine):zg X (.builtin "sorted") (rB1 g .sorted):=eh ((rj.or uv).or wG) λS ds d vs H Q hs rs h q=>by
 obtain⟨x,rfl,h'⟩:=iO (λ_ _=>rfl) h;by_cases htu:∃xs,x=.tup xs
 ·obtain⟨xs,rfl⟩:=htu;have h':(if xs.length<64 then b5 (ints? xs) λns=>.ok (.lst ((sortI ns).map D.int))else .no)=R.ok d:=h';split at h'
  ·rename_i hz
   obtain⟨ns,e,h2⟩:=iE h';cases h2;cases rs with
   |cons r rs=>
    cases rs;obtain⟨a,us,rfl,h1,r1⟩:=r.tup;obtain⟨rfl,rfl⟩:=r1.ints e;refine .inr ⟨a,ns,rfl,by rw[hK];exact h1,by simpa using hz,λp ms hp pm pw=>?_⟩;rw[jL pm pw];exact q _ _ (zk hp) (el hs hp (qt.ofInts _)) λ_=>eV (qe.refl _) hp (qt.ofInts _)
  ·cases h'
 refine .inl ?_;have h':(cG x λxs=>if xs.length<64 then (match ints? xs with
   |some ns=>.ok (.lst ((sortI ns).map D.int))
   |none=>match pairs? xs with
    |some ps=>.ok (.lst ((zl ps).map pairD))
    |none=>dk xs)else dk xs)=.ok d:=by cases x<;>first|exact absurd ⟨_,rfl⟩ htu|exact h'
 obtain⟨xs,rfl,h2⟩:=jg h'
 replace h:=h2
 cases rs with
 |cons r rs=>
  cases rs;obtain⟨a,us,rfl,h1,r1⟩:=r.lst;have big:dk xs=.ok d->False:=λh=>by cases h
  by_cases hz:xs.length<64
  ·rw[if_pos hz]at h;cases e:ints? xs with
   |some ns=>
    rw[e]at h;cases h;obtain⟨rfl,rfl⟩:=r1.ints e;refine .inl ⟨a,ns,rfl,by rw[hK];exact h1,by simpa using hz,λp ms hp pm pw=>?_⟩;rw[jL pm pw];exact q _ _ (zk hp) (el hs hp (qt.ofInts _)) λ_=>eV (qe.refl _) hp (qt.ofInts _)
   |none=>
    rw[e]at h;cases e2:pairs? xs with
    |none=>rw[e2]at h;exact(big h).elim
    |some ps=>
     rw[e2]at h;cases h;obtain⟨rfl,as,rfl,hl,hp⟩:=r1.pairs e2;refine .inr ⟨a,as,ps,rfl,by rw[hK];exact h1,hl.symm,by rw[aW]at hz;lia,λi p k h1 h2=>by rw[hK];exact zr zt (hp i p k h1 h2),λp hn=>?_⟩;have hR:qt g (hid H S) ((zl ps).map pairD) ((zN ps).map λi=>(as.map V.ref).getD i .non):=by
      rw[<-vF,List.map_map];have:∀l:List Nat,(∀i∈l,i<ps.length)->qt g (hid H S) (l.map (pairD∘λi=>ps.getD i (0,0))) (l.map λi=>(as.map V.ref).getD i .non):=by
       intro l
       induction l with
       |nil=>intro _;exact .nil
       |cons i l ih=>
        intro hl';have hi:=hl' i aL;refine .cons ?_ (ih λj hj=>hl' j (aI _ hj));obtain⟨v,e1,e2⟩:=r1.get (i:=i) (d:=pairD (ps.getD i (0,0))) (by simp[hi]);have e3:(as.map V.ref).getD i .non=v:=by rw[List.getD_eq_getElem?_getD,e1];rfl
        show Rep g (hid H S) (pairD (ps.getD i (0,0))) ((as.map V.ref).getD i .non);rw[e3];exact e2
      exact this _ λi hi=>jW i hi
     exact q _ _ (zk hn) (el hs hn hR) λ_=>eV (qe.refl _) hn hR
  ·rw[if_neg hz]at h;exact(big h).elim
theorem mO(hK:X.K=g.K)(hc:X.calm=true)(mx:Bool):zg X (.builtin (if mx then "max" else "min")) (rB1 g (if mx then .max else .min)):=by
 have two:∀{S:Sh}{H:Hp}{x y:D}{vs:List V}{i j:Int},x=.int i->y=.int j->dN g H S [x,y] vs->vs=[.int i,.int j]:=by
  intro S H x y vs i j hx hy rs;subst hx hy;cases rs with
  |cons r1 rs=>
   cases rs with
   |cons r2 rs=>cases rs;rw[r1.int,r2.int]
 have inv:∀{b:B1}{ds:List D}{d:D},b1 b ds=.ok d->(∃x,ds=[x]/\b11 b x=.ok d)\/∃x y,ds=[x,y]/\b12 b x y=.ok d:=by
  intro b ds d h
  match ds,h with
  | [x],h=>exact .inl ⟨x,rfl,h⟩
  | [x,y],h=>exact .inr ⟨x,y,rfl,h⟩
  | [],h=>cases h
  |_::_::_::_,h=>cases h
 cases mx
 ·exact eh (yG hc) λS ds d vs H Q hs rs h q=>by
   rcases inv h with ⟨x,rfl,h'⟩|⟨x,y,rfl,h'⟩
   ·cases h'
   ·obtain⟨i,j,hx,hy,h'⟩:=lD h';cases h';exact⟨i,j,two hx hy rs,q _ _ (qe.refl _) (.int _) (by simp)⟩
 ·exact eh (pO hc) λS ds d vs H Q hs rs h q=>by
   rcases inv h with ⟨x,rfl,h'⟩|⟨x,y,rfl,h'⟩
   ·cases h'
   ·obtain⟨i,j,hx,hy,h'⟩:=lD h';cases h';exact⟨i,j,two hx hy rs,q _ _ (qe.refl _) (.int _) (by simp)⟩
theorem oh:zg X (.builtin "abs") (rB1 g .abs):=gM (λ_=>rfl) λ_ _=>rfl
theorem pj:zg X (.type "int") (rB1 g .int):=gM (λ_=>rfl) λ_ _=>rfl
theorem AJ:zg X (.type "bool") (rB1 g .bool):=gM (λ_=>rfl) λ_ _=>rfl
theorem ur(hK:X.K=g.K)(hc:X.calm=true):zg X (.builtin "sum") (rB1 g .sum):=gM (λ_=>rfl) λ_ _=>rfl
theorem m5(hK:X.K=g.K)(hu:X.A.units+64<cLine):∀b,(X.calm=true\/b=.len\/b=.abs\/b=.tuple\/b=.list\/b=.int\/b=.bool)->zg X (b1V b) (rB1 g b)
 | .len,_=>sf hK
 | .tuple,_=>uV hK
 | .list,_=>tY hK
 | .sorted,_=>pN hK hu
 | .all,h=>nV hK (by simpa using h) true
 | .any,h=>nV hK (by simpa using h) false
 | .sum,h=>ur hK (by simpa using h)
 | .min,h=>mO hK (by simpa using h) false
 | .max,h=>mO hK (by simpa using h) true
 | .abs,_=>oh
 | .int,_=>pj
 | .bool,_=>AJ
theorem kg{H:Hp}{ds:List D}{vs:List V}(r:qt g H ds vs):ds.isEmpty=vs.isEmpty:=by cases r<;>rfl
theorem yp(hK:X.K=g.K){S:Sh}{H:Hp}{d:D}{v:V}{b:Bool}(r:zq g H S d v)(e:truth d=.ok b):jz X.K v H b:=by
 cases d with
 |non=>cases r.rep;cases e;exact rfl
 |bl c=>cases r.rep;cases e;exact rfl
 |int i=>cases r.rep;cases e;exact rfl
 |tup xs=>
  cases e;obtain⟨a,vs,rfl,h1,r1⟩:=r.tup;exact .inr (.inl ⟨vs,by rw[hK];exact h1,by rw[kg r1]⟩)
 |lst xs=>
  cases e;obtain⟨a,vs,rfl,h1,r1⟩:=r.lst;exact .inl ⟨vs,by rw[hK];exact h1,by rw[kg r1]⟩
 |_=>cases e
theorem sD(hK:X.K=g.K):zg X (.builtin "isinstance") (λxs H Q=>∃S d v n t,xs=[v,.ty n]/\zq g H S d v/\tyD d=some t/\n∈["int","bool","str","list","tuple"]/\Q (.bl (ey t n)) H):=by
 intro pins s σ H xs us Q I r h;obtain⟨S,d,v,n,t,rfl,rd,ht,hn,q⟩:=h;obtain⟨u,cu,rfl,rx,rc⟩:=r.two;cases rc;have fin:∀tk,EP X pins σ Q (.bool (ey t n)) {s with toks:=tk}:=λtk=>⟨.bl _,H,I.tok tk,rfl,q⟩
 have kb:t∈["NoneType","bool","int","str","list","tuple","dict"]->a_ X.K (.type t) (.type n)=some (ey t n):=λh=>sA h hn
 cases d with
 |non=>cases ht;cases rd.rep;exact fh I rx .non (kb (by simp)) fin
 |bl c=>cases ht;cases rd.rep;exact fh I rx (.bl c) (kb (by simp)) fin
 |int i=>cases ht;cases rd.rep;exact fh I rx (.int i) (kb (by simp)) fin
 |str i=>cases ht;cases rd.rep;exact fh I rx (.str i) (kb (by simp)) fin
 |tup xs=>
  cases ht;obtain⟨a,vs,rfl,h1,_⟩:=rd.tup;cases rx;obtain⟨its,_,⟨o,e1,e2,_⟩,_⟩:=I.tuple (by rw[hK];exact h1);exact bC PySem.W.kitx_tuple I.kIn ⟨o,e1,e2⟩ (kb (by simp)) (λz=>nomatch z) fin
 |lst xs=>
  cases ht;obtain⟨a,vs,rfl,h1,_⟩:=rd.lst;cases rx;obtain⟨its,_,pl,_⟩:=I.list (by rw[hK];exact h1);obtain⟨o,e1,e2,_⟩:=pl.isList;exact bC PySem.W.kitx_list I.kIn ⟨o,e1,e2⟩ (kb (by simp)) (λz=>nomatch z) fin
 |dic=>
  cases ht;cases rd.rep with
  |dic h1=>exact fh I rx (.dK h1) (kb (by simp)) fin
 |_=>cases ht
end
theorem AM{o:O2}{a b:Int}{c:Xc}:opI o a b≠.ex c:=by
 cases o<;>simp only[opI]<;>(try split)<;>intro h<;>cases h
theorem oW{o:O2}{a b:D}{c:Xc}:op2 o a b≠.ex c:=by
 unfold op2;split
 ·exact AM
 all_goals ((try split)<;>intro h<;>cases h)
theorem sO{n:Bool}{a b:D}{c:Xc}:isB n a b≠.ex c:=by
 unfold isB;split<;>intro h<;>cases h
theorem wO{o:C2}{a b:D}{c:Xc}:ql o a b≠.ex c:=by
 unfold ql;split<;>(try split)<;>(try split)<;>intro h<;>first|cases h|exact sO h
theorem sx{a:D}{c:Xc}:truth a≠.ex c:=by
 unfold truth;split<;>intro h<;>cases h
theorem yX{a b:D}{c:Xc}:ixD a b≠.ex c:=by
 unfold ixD;split<;>(try split)<;>intro h<;>cases h
theorem Au{a:D}{l h:Option Int}{c:Xc}:slD a l h≠.ex c:=by
 unfold slD;split<;>(try split)<;>intro h<;>cases h
theorem iL{x:D}{k:List D->R D}{c:Xc}(h:∀xs,k xs≠.ex c):cG x k≠.ex c:=by
 cases x with
 |lst xs=>exact h xs
 |_=>intro z;cases z
theorem lI{x y:D}{k:Int->Int->R D}{c:Xc}(h:∀i j,k i j≠.ex c):iiR x y k≠.ex c:=by
 cases x with
 |int i=>
  cases y with
  |int j=>exact h i j
  |_=>intro z;cases z
 |_=>intro z;cases z
theorem eN{α β:Type}{o:Option α}{k:α->R β}{c:Xc}(h:∀a,k a≠.ex c):b5 o k≠.ex c:=by
 cases o with
 |some a=>exact h a
 |none=>intro z;cases z
theorem dj{α:Type}{a:α}{c:Xc}:R.ok a≠.ex c:=by intro z;cases z
theorem cW{α:Type}{c:Xc}:(R.no:R α)≠.ex c:=by intro z;cases z
theorem lW{xs:List D}{c:Xc}:dk xs≠.ex c:=cW
theorem wK{b:B1}{d:D}{c:Xc}:b11 b d≠.ex c:=by
 cases b with
 |len=>exact eN λ_=>dj
 |tuple=>exact eN λ_=>dj
 |list=>exact eN λ_=>dj
 |all=>exact iL λ_=>eN λ_=>dj
 |any=>exact iL λ_=>eN λ_=>dj
 |sorted=>
  by_cases h:∃xs,d=.tup xs
  ·obtain⟨xs,rfl⟩:=h;show (if xs.length<64 then b5 (ints? xs) λns=>R.ok (D.lst ((sortI ns).map D.int))else R.no)≠R.ex c;split
   ·exact eN λ_=>dj
   ·exact cW
  have e:b11 .sorted d=cG d λxs=>if xs.length<64 then (match ints? xs with
    |some ns=>.ok (.lst ((sortI ns).map D.int))
    |none=>match pairs? xs with
     |some ps=>.ok (.lst ((zl ps).map pairD))
     |none=>dk xs)else dk xs:=by cases d<;>first|exact absurd ⟨_,rfl⟩ h|rfl
  rw[e];refine iL λ_=>?_
  split
  ·split
   ·exact dj
   ·split
    ·exact dj
    ·exact lW
  ·exact lW
 |abs=>exact cW
 |int=>exact cW
 |bool=>exact cW
 |sum=>exact cW
 |min=>exact cW
 |max=>exact cW
theorem sC{b:B1}{ds:List D}{c:Xc}:b1 b ds≠.ex c:=by
 match ds with
 | []=>exact cW
 | [_]=>exact wK
 | [x,y]=>
  cases b with
  |min=>exact lI λ_ _=>dj
  |max=>exact lI λ_ _=>dj
  |_=>exact cW
 |_::_::_::_=>exact cW
structure a8(g:Gc)(c:Cc)(e:E)(S:Sh)(H:Hp)(d:D)(v:V)(H':Hp):Prop where
 same:qe H H'
 rb:zq g H' S d v
 st:esc e=true->Rep g (hid H' S) d v
 fr:fresh c e=true->Fr g H S H' d v
theorem dB.hid{H0 H H':Hp}{S:Sh}{dx:Option Addr}{fs:List (Str×Int)}(h:dB H0 H dx fs)(sb:Sub S H0)(e:qe H H'):fB (hid H' S) dx fs:=by
 rcases h with h|⟨d,h1,h2,h3⟩
 ·exact .inl h
 ·exact .inr ⟨d,h1,bA.mpr ⟨sb.free h2,e _ _ h3⟩⟩
structure SE(g:Gc)(c:Cc)(τ:Env)(σ:L2.St)(H:Hp)(S:Sh):Prop where
 len:τ.length=σ.length
 val:∀(i:Nat) (d:D),τ[i]? = some (some d)->∃v,σ[i]? = some (some v)/\zq g H S d v/\∀x,c.N[i]? = some x->c.own.contains x=false->Rep g (hid H S) d v
 sub:Sub S H
theorem SE.up{g:Gc}{c:Cc}{τ:Env}{σ:L2.St}{H H':Hp}{S:Sh}(s:SE g c τ σ H S)(e:qe H H'):SE g c τ σ H' S:=
 ⟨s.len,λi d h=>let ⟨v,h1,h2,h3⟩:=s.val i d h;⟨v,h1,h2.mono e,λx a b=>(h3 x a b).mono (qT e)⟩,s.sub.same e⟩
noncomputable def tR{α:Type}(g:Gc)(E:XK)(H:Hp)(r:R α)(k:α->Prop):Prop:=match r with
 | .ok a=>k a
 | .ex c=>∀H' C dx,qe H H'->g.clA c.nm=some C->dB H H' dx c.fs->E (.ref C) dx H'
 | .no=>False
theorem tR.up{α:Type}{g:Gc}{E:XK}{H H':Hp}{r:R α}{k:α->Prop}(h:tR g E H r k)(e:qe H H'):tR g E H' r k:=by
 cases r with
 |ok a=>exact h
 |ex c=>exact λH2 C dx e2 hc hx=>h H2 C dx (e.trans e2) hc (hx.low e)
 |no=>exact h
theorem tR.imp{α:Type}{g:Gc}{E:XK}{H:Hp}{r:R α}{k k':α->Prop}(h:tR g E H r k)(i:∀a,k a->k' a):tR g E H r k':=by
 cases r with
 |ok a=>exact i a h
 |ex c=>exact h
 |no=>exact h
section
variable(w:W)(g:Gc)(c:Cc)(E:XK)
noncomputable def tE(e:EV.E):TE:=λσ H Q=>∃τ S,SE g c τ σ H S/\tR g E H (evE w e τ) λd=>∀v H',a8 g c e S H d v H'->Q v H'
noncomputable def tT(t:T):TT:=λσ H Q=>∃τ S,SE g c τ σ H S/\tR g E H (evT w t τ) λb=>∀H',qe H H'->Q b H'
noncomputable def tA(es:Es):TA:=λσ H Q=>∃τ S,SE g c τ σ H S/\tR g E H (zo w es τ) λds=>∀vs H',qe H H'->dN g H' S ds vs->(cZ es=true->qt g (hid H' S) ds vs)->Q vs H'
noncomputable def tOe(o:OE):TO:=λσ H Q=>∃τ S,SE g c τ σ H S/\tR g E H (evO w o τ) λi=>∀H',qe H H'->Q i H'
noncomputable def Goes(g:Gc)(J:L2.It)(ds:List D)(H:Hp)(S:Sh):Prop:=
 (∀i,ds.length<=i->J.stop i H)/\∀i d,ds[i]? = some d->J.go i H/\∀x H',J.yld i H x H'->qe H H'/\Rep g (hid H' S) d x
noncomputable def tIt(it:It):TI:=λσ H R=>∃τ S,SE g c τ σ H S/\tR g E H (evI w it τ) λds=>∀J H',qe H H' ->
 (∀H2 S2,qe H' H2->qe (hid H' S) (hid H2 S2)->Sub S2 H2->Goes g J ds H2 S2)->(owned it=false->∀H2 S2,qe (hid H' S) (hid H2 S2)->Sub S2 H2->Goes g J ds H2 S2)->R J H'
end
theorem PE.imp{X:Cx}{e:Expr}{t t':TE}(h:PE X e t)(i:∀σ H Q,t' σ H Q->t σ H Q):PE X e t':=λpins s σ H Q I q=>h pins s σ H Q I (i _ _ _ q)
theorem PT.imp{X:Cx}{e:Expr}{t t':TT}(h:PT X e t)(i:∀σ H Q,t' σ H Q->t σ H Q):PT X e t':=λpins s σ H Q I q=>h pins s σ H Q I (i _ _ _ q)
theorem PW.imp{X:Cx}{e:Expr}{t t':TT}(h:PW X e t)(i:∀σ H Q,t' σ H Q->t σ H Q):PW X e t':=λwh pins s σ H Q I q=>h wh pins s σ H Q I (i _ _ _ q)
theorem PA.imp{X:Cx}{e:List Expr}{t t':TA}(h:PA X e t)(i:∀σ H Q,t' σ H Q->t σ H Q):PA X e t':=λpos pins s σ H Q I q=>h pos pins s σ H Q I (i _ _ _ q)
theorem PO.imp{X:Cx}{e:Option Expr}{t t':TO}(h:PO X e t)(i:∀σ H Q,t' σ H Q->t σ H Q):PO X e t':=λpins s σ H Q I q=>h pins s σ H Q I (i _ _ _ q)
theorem PI.imp{X:Cx}{tg e:Expr}{t t':TI}(h:PI X tg e t)(i:∀σ H Q,t' σ H Q->t σ H Q):PI X tg e t':=λpins s σ H Q I q=>h pins s σ H Q I (i _ _ _ q)
theorem PS.imp{X:Cx}{e:Stmt}{t t':TS}(h:PS X e t)(i:∀D σ H,t' D σ H->t D σ H):PS X e t':=λpins s σ H Q I q=>h pins s σ H Q I (i _ _ _ q)
theorem PSs.imp{X:Cx}{e:List Stmt}{t t':TS}(h:PSs X e t)(i:∀D σ H,t' D σ H->t D σ H):PSs X e t':=λpins s σ H Q I q=>h pins s σ H Q I (i _ _ _ q)
section
variable{w:W}{g:Gc}{c:Cc}{E:XK}{τ:Env}{σ:L2.St}{H H0:Hp}{S:Sh}
theorem zd{α:Type}{e:EV.E}{f:D->R α}{P:α->Prop}{Q:VK}(se:SE g c τ σ H S)(h:tR g E H ((evE w e τ).bind f) P)(k:∀d v H',evE w e τ=.ok d->a8 g c e S H d v H'->tR g E H' (f d) P->Q v H'):tE w g c E e σ H Q:=by
 refine⟨τ,S,se,?_⟩;cases q:evE w e τ with
 |ok d=>rw[q]at h;exact λv H' p=>k d v H' q p (tR.up h p.same)
 |ex x=>rw[q]at h;exact h
 |no=>rw[q]at h;exact h
theorem gr{α:Type}{t:T}{f:Bool->R α}{P:α->Prop}{Q:Bool->Hp->Prop}(se:SE g c τ σ H S)(h:tR g E H ((evT w t τ).bind f) P)(k:∀b H',evT w t τ=.ok b->qe H H'->tR g E H' (f b) P->Q b H'):tT w g c E t σ H Q:=by
 refine⟨τ,S,se,?_⟩;cases q:evT w t τ with
 |ok d=>rw[q]at h;exact λH' p=>k d H' q p (tR.up h p)
 |ex x=>rw[q]at h;exact h
 |no=>rw[q]at h;exact h
theorem eU{α:Type}{es:Es}{f:List D->R α}{P:α->Prop}{Q:List V->Hp->Prop}(se:SE g c τ σ H S)(h:tR g E H ((zo w es τ).bind f) P)
  (k:∀ds vs H',zo w es τ=.ok ds->qe H H'->dN g H' S ds vs->(cZ es=true->qt g (hid H' S) ds vs)->tR g E H' (f ds) P->Q vs H'):tA w g c E es σ H Q:=by
 refine⟨τ,S,se,?_⟩;cases q:zo w es τ with
 |ok d=>rw[q]at h;exact λvs H' p r r'=>k d vs H' q p r r' (tR.up h p)
 |ex x=>rw[q]at h;exact h
 |no=>rw[q]at h;exact h
theorem k_{α:Type}{o:OE}{f:Option Int->R α}{P:α->Prop}{Q:Option Int->Hp->Prop}(se:SE g c τ σ H S)(h:tR g E H ((evO w o τ).bind f) P)(k:∀b H',evO w o τ=.ok b->qe H H'->tR g E H' (f b) P->Q b H'):tOe w g c E o σ H Q:=by
 refine⟨τ,S,se,?_⟩;cases q:evO w o τ with
 |ok d=>rw[q]at h;exact λH' p=>k d H' q p (tR.up h p)
 |ex x=>rw[q]at h;exact h
 |no=>rw[q]at h;exact h
theorem a8.of{e:EV.E}{d:D}{v:V}{H':Hp}(s:qe H H')(r:Rep g (hid H' S) d v)(f:fresh c e=false):a8 g c e S H d v H':=⟨s,.inl r,λ_=>r,λz=>by rw[f]at z;cases z⟩
theorem a8.new{e:EV.E}{d:D}{v:V}{H':Hp}(s:qe H H')(r:Rep g (hid H' S) d v)(f:Fr g H S H' d v):a8 g c e S H d v H':=⟨s,.inl r,λ_=>r,λ_=>f⟩
theorem Fr.low{d:D}{v:V}{H1 H':Hp}(f:Fr g H1 S H' d v)(e:qe H H1):Fr g H S H' d v:=by
 obtain⟨a,vs,ds,h1,h2,h3,h4,h5⟩:=f;exact⟨a,vs,ds,h1,h2,e.free h3,h4,h5⟩
end
noncomputable def b1N:B1->Str
 | .len=>"len"
 | .tuple=>"tuple"
 | .list=>"list"
 | .sorted=>"sorted"
 | .all=>"all"
 | .any=>"any"
 | .sum=>"sum"
 | .min=>"min"
 | .max=>"max"
 | .abs=>"abs"
 | .int=>"int"
 | .bool=>"bool"
theorem pZ:∀b,bx (b1N b)=some (b1V b)
 | .len | .tuple | .list | .sorted | .all | .any | .sum | .min | .max | .abs | .int | .bool=>by decide +kernel
noncomputable def spF(w:W)(g:Gc)(x:Str)(fr:Bool):Sp:=λvs H Q E=>∃S ds,Sub S H/\qt g (hid H S) ds vs /\
 tR g E H (w.call x ds) λd=>∀v H',qe H H'->Rep g (hid H' S) d v->(fr=true->Fr g H S H' d v)->Q v H'
structure gq(w:W)(g:Gc)(P:av)(wl:au)(mg:Str->Option ae)(base:Heap)(A:aw)(calm:Bool)(x:Str)(f:Addr)(fr:Bool):Prop where
 at_:mg x=some (.ref f)
 kp:bT g.K (.ref f)=true
 fn:∃k fd ps,Binds g.K fd ps []/\((calm=true/\dO P wl g.K mg base (CX1 P wl) k f fd ps (spF w g x fr)/\bP k A)\/(calm=false/\fw P wl g.K mg base (CX1 P wl) k f fd ps (spF w g x fr)/\dm k A))
noncomputable def GM(w:W)(g:Gc)(P:av)(wl:au)(mg:Str->Option ae)(base:Heap)(A:aw)(calm:Bool)(x:Str):GK->Prop
 | .fn fr=>∃f,g.fnA x=some f/\gq w g P wl mg base A calm x f fr
 | .val=>∃u v d,mg x=some u/\RelV v u/\w.glb x=some d/\∀H,Rep g H d v
 | .bi b=>mg x=none/\x=b1N b/\∃id,b1V b=.builtin id
 | .rng=>mg x=none/\x = "range"
 | .enum=>mg x=none/\x = "enumerate"
 | .zip=>mg x=none/\x = "zip"
 | .isi=>mg x=none/\x = "isinstance"
 | .ty n b=>mg x=none/\bx x=some (.type n)/\(n∈["int","bool","str","list","tuple"]\/n = "ValueError")/\∀b',b=some b'->x=b1N b'/\b1V b'=.type n
 | .exc=>∃C,mg x=some (.ref C)/\g.clA x=some C
 | .exk=>∃C,mg x=some (.ref C)/\g.clA x=some C
 | .exf=>∃C,mg x=some (.ref C)/\g.clA x=some C
 | .set=>mg x=none/\bx x=some (.type "set")
noncomputable def mm(fl:Str->Option (List Str))(g:Gc):Prop:=∀x fs,fl x=some fs->∀C,g.clA x=some C->∃fI,cj g.K C fI fs/\dD g.K fI fs/\fs.length<=100/\fs≠[]
structure XO(w:W)(g:Gc)(c:Cc)(E:XK)(X:Cx):Prop where
 K:X.K=g.K
 nm:X.env.scope.names=c.nm
 N:X.N=c.N
 nd:c.N.Nodup
 calm:c.calm=true->X.calm=true
 units:X.A.units+64<cLine
 dp:X.A.depth+5<recursionLimit
 fn:∀x,(c.fnc=true\/c.oc.contains x=true)->X.fn x=true
 kind:X.env.scope.kind=.function
 pass:Passes (CX1 X.prog X.w) X E
 gok:∀x k,c.G.lookup x=some k->GM w g X.prog X.w X.mg X.base X.A X.calm x k
 fns:X.calm=true->∀x f,g.fnA x=some f->∃fr,gq w g X.prog X.w X.mg X.base X.A X.calm x f fr
 -- what isinstance says of a caught error
 sub:∀k cl b,w.sub k cl=some b->∃C cv,g.clA k=some C/\zD g.K C/\a_ g.K (.ref C) cv=some b/\match cl with
  | .ty n=>n = "ValueError"/\cv=.type n
  | .ex x=>∃D,g.clA x=some D/\cv=.ref D
 -- the classes of errors with fields
 fl:mm w.fld g
section
variable{w:W}{g:Gc}{c:Cc}{E:XK}{X:Cx}
theorem dz{x:Str}{i:Nat}(h:loc c x=some i):c.N[i]? = some x/\(c.nm.lookup x=some .local\/c.nm.lookup x=some .cell\/c.nm.lookup x=some .free)/\(x==("__debug__" : Str))=false/\(x==("__classdict__" : Str))=false:=by
 unfold loc at h;split at h
 ·cases h
 ·rename_i hd
  have hd':(x==("__debug__" : Str))=false/\(x==("__classdict__" : Str))=false:=by simpa using hd
  have fin:∀{j},(if c.N[j]? = some x then some j else none)=some i->c.N[i]? = some x:=λ{j} z=>by
   split at z
   ·cases z;assumption
   ·cases z
  split at h
  ·rename_i q;exact⟨fin h,.inl q,hd'⟩
  ·rename_i q;exact⟨fin h,.inr (.inl q),hd'⟩
  ·rename_i q;exact⟨fin h,.inr (.inr q),hd'⟩
  ·cases h
theorem ze{x:Str}{k:GK}(h:glob c x=some k):c.nm.lookup x=some .globalImplicit/\c.G.lookup x=some k/\(x==("__debug__" : Str))=false/\x≠"__name__":=by
 unfold glob at h;split at h
 ·cases h
 ·rename_i hd
  have hd':(x==("__debug__" : Str))=false/\(x==("__name__" : Str))=false:=by simpa using hd
  split at h
  ·rename_i q;exact⟨q,h,hd'.1,by simpa using hd'.2⟩
  ·cases h
theorem XO.gl(O:XO w g c E X){x:Str}{k:GK}(h:glob c x=some k):Gl X x:=by
 show X.env.scope.names.lookup x=_;rw[O.nm];exact(ze h).1
theorem XO.gm(O:XO w g c E X){x:Str}{k:GK}(h:glob c x=some k):GM w g X.prog X.w X.mg X.base X.A X.calm x k:=O.gok x k (ze h).2.1
theorem qm{e:Expr}{es:List Expr}{env:PySem.Env}(h:isStar e=false):aH (e::es) env=(false,eval e env)::aH es env:=by
 cases e<;>first|rfl|(simp[isStar]at h)
theorem fz{es:List Expr}{env:PySem.Env}{pos:Pos}:(∀e∈es,isStar e=false)->(backTo pos (aH es env)).any (·.1)=false:=by
 induction es with
 |nil=>intro _;rfl
 |cons e es ih=>
  intro h;rw[qm (h e aL)];show (false||(backTo pos (aH es env)).any (·.1))=false;rw[ih λe he=>h e (aI _ he)]
  rfl
theorem dA:∀{n:Nat}{es:List Expr}{ir:Es},cEs n c es=some ir->∀e∈es,isStar e=false
 | 0,_,_,h=>by simp[cEs]at h
 |n+1,[],_,_=>by simp
 |n+1,e::es,ir,h=>by
  simp only[cEs]at h;cases hs:isStar e with
  |true=>simp[hs]at h
  |false=>
   simp only[hs,b9,if_false,aB,az]at h;obtain⟨_,_,r,hr,_⟩:=h;intro x hx;rcases aG.mp hx with rfl|hx
   ·exact hs
   ·exact dA hr x hx
theorem z_{x:Str}{f:Addr}{fr:Bool}{e:Expr}{es:List Expr}{p pos:Pos}{t:TA}(O:XO w g c E X)(C:gq w g X.prog X.w X.mg X.base X.A X.calm x f fr)(hg:Gl X x)(hd:(x==("__debug__" : Str))=false)(ha:PA X (e::es) t)
  (hs:∀z∈e::es,isStar z=false):PE X (.Call (.Name x p) (e::es) [] pos) (i' (spF w g x fr) [] E t):=by
 obtain⟨k,fd,ps,hb,h⟩:=C.fn;have he:=qm (es:=es) (env:=X.env) (hs e aL);have hp:=fz (env:=X.env) (pos:=pos) λz hz=>hs z (aI _ hz)
 rw[<-O.K]at hb h;rcases h with ⟨_,F,r⟩|⟨_,F,r⟩
 ·exact wD F r hg C.at_ (by rw[O.K];exact C.kp) hb .nil O.pass ha hd he hp
 ·exact rZ F r hg C.at_ (by rw[O.K];exact C.kp) hb .nil O.pass ha hd he hp
end
end EV
namespace L2
open PySem PySem.Spec PyProof.Rows
section
variable{X:Cx}
end
end L2
namespace EV
open PySem PySem.Spec PySem.P PyProof.Rows L2
section
variable{w:W}{g:Gc}{c:Cc}{E:XK}{X:Cx}{a b d f:Expr}{ia ib id' if':EV.E}{pos p2:Pos}{ta tb:T}
theorem gU{e:Expr}{v:V}{dd:D}(h:PE X e (tC v))(r:∀H,Rep g H dd v):PE X e (tE w g c E (.con dd)):=PE.imp h λσ H Q ⟨τ,S,se,k⟩=>k v H (a8.of (qe.refl _) (r _) rfl)
theorem gE{x:Str}{i:Nat}(O:XO w g c E X)(h:loc c x=some i):PE X (.Name x pos) (tE w g c E (if c.own.contains x then .own i else .var i)):=by
 obtain⟨h1,h2,h3,h4⟩:=dz h;refine PE.imp (gw (i:=i) (by rw[O.N];exact h1) (by unfold eQ;rw[O.nm];exact h2) h3 h4) λσ H Q ⟨τ,S,se,k⟩=>?_
 have key:∀e,evE w e τ=bW τ i->fresh c e=false->(esc e=true->c.own.contains x=false)->tR g E H (evE w e τ) (λd=>∀v H',a8 g c e S H d v H'->Q v H')->fT i σ H Q:=λe e1 e2 e3 k=>by
  rw[e1]at k;unfold bW at k;cases q:τ[i]? with
  |none=>rw[q]at k;exact k.elim
  |some o=>
   cases o with
   |none=>rw[q]at k;exact k.elim
   |some d=>
    rw[q]at k;obtain⟨v,z1,z2,z3⟩:=se.val i d q;exact⟨v,z1,k v H ⟨qe.refl _,z2,λz=>z3 x h1 (e3 z),λz=>by rw[e2]at z;cases z⟩⟩
 cases ho:c.own.contains x with
 |true=>rw[ho]at k;exact key (.own i) (by simp[qX,zb,qY,qU,qV,qW,za,zc,qZ,qw,qD,qH,qB,qE,qu,qA,qC,qq,qx,qz,qR,qs,qF,qQ,qG,qr,qP,qJ,qI,qy,qM,qO,qN,qS,qL,qK]) rfl (by intro z;cases z) k
 |false=>rw[ho]at k;exact key (.var i) (by simp[qX,zb,qY,qU,qV,qW,za,zc,qZ,qw,qD,qH,qB,qE,qu,qA,qC,qq,qx,qz,qR,qs,qF,qQ,qG,qr,qP,qJ,qI,qy,qM,qO,qN,qS,qL,qK]) rfl (λ_=>ho) k
theorem wX{x:Str}(O:XO w g c E X)(h:glob c x=some .val):PE X (.Name x pos) (tE w g c E (.glb x)):=by
 obtain⟨u,v,d,h1,h2,h3,h4⟩:=O.gm h;refine PE.imp (gJ (O.gl h) h1 h2 (ze h).2.2.1) λσ H Q ⟨τ,S,se,k⟩=>?_
 simp only[qX,zb,qY,qU,qV,qW,za,zc,qZ,qw,qD,qH,qB,qE,qu,qA,qC,qq,qx,qz,qR,qs,qF,qQ,qG,qr,qP,qJ,qI,qy,qM,qO,qN,qS,qL,qK,h3]at k;exact k v H (a8.of (qe.refl _) (h4 _) rfl)
theorem xf{x:Str}{fr:Bool}(O:XO w g c E X)(h:glob c x=some (.fn fr)):PE X (.Name x pos) (tE w g c E (.fnv x)):=λpins s σ H Q I ⟨τ,S,se,kk⟩=>by
 simp only[qX,zb,qY,qU,qV,qW,za,zc,qZ,qw,qD,qH,qB,qE,qu,qA,qC,qq,qx,qz,qR,qs,qF,qQ,qG,qr,qP,qJ,qI,qy,qM,qO,qN,qS,qL,qK]at kk;exact aP kk
theorem jV{τ:EV.Env}{e:EV.E}{d:D}(h:isL e=true)(he:evE w e τ=.ok d):kI d=true:=by
 cases e<;>first|(cases h;done)|skip
 ·simp only[qX,zb,qY,qU,qV,qW,za,zc,qZ,qw,qD,qH,qB,qE,qu,qA,qC,qq,qx,qz,qR,qs,qF,qQ,qG,qr,qP,qJ,qI,qy,qM,qO,qN,qS,qL,qK]at he;cases q:zo w ‹_› τ with
  |ok ds=>rw[q]at he;cases he;rfl
  |ex z=>rw[q]at he;cases he
  |no=>rw[q]at he;cases he
 ·simp only[qX,zb,qY,qU,qV,qW,za,zc,qZ,qw,qD,qH,qB,qE,qu,qA,qC,qq,qx,qz,qR,qs,qF,qQ,qG,qr,qP,qJ,qI,qy,qM,qO,qN,qS,qL,qK]at he;cases he
 ·simp only[qX,zb,qY,qU,qV,qW,za,zc,qZ,qw,qD,qH,qB,qE,qu,qA,qC,qq,qx,qz,qR,qs,qF,qQ,qG,qr,qP,qJ,qI,qy,qM,qO,qN,qS,qL,qK]at he;cases q:evI w ‹_› τ with
  |ok ds=>
   rw[q]at he;simp only[R.bind_ok]at he;split at he
   ·cases he
   ·generalize zK _ _ _ _=r at he;cases r with
    |ok o=>cases he;rfl
    |ex z=>cases he
    |no=>cases he
  |ex z=>rw[q]at he;cases he
  |no=>rw[q]at he;cases he
theorem t_(O:XO w g c E X){op:Operator}{o:O2}(ho:o2 op=some o)(ha:PE X a (tE w g c E ia))(hb:PE X b (tE w g c E ib)):PE X (.BinOp a op b pos) (tE w g c E (.op o ia ib)):=
 PE.imp (xY (vH O.K ho) ha hb) λσ H Q ⟨τ,S,se,k⟩=>by
  simp only[qX,zb,qY,qU,qV,qW,za,zc,qZ,qw,qD,qH,qB,qE,qu,qA,qC,qq,qx,qz,qR,qs,qF,qQ,qG,qr,qP,qJ,qI,qy,qM,qO,qN,qS,qL,qK]at k;refine zd se k λda va H1 e1 p1 k1=>zd (se.up p1.same) k1 λdb vb H2 e2 p2 k2=>⟨S,da,db,(se.up (p1.same.trans p2.same)).sub,p1.rb.mono p2.same,p2.rb,?_⟩
  cases q:op2 o da db with
  |ok r=>
   rw[q]at k2;exact λv H' s r f=>k2 v H' ⟨(p1.same.trans p2.same).trans s,.inl r,λ_=>r,λz=>by
    simp only[fresh,cx,aJ,beq_iff_eq]at z;refine(f ?_).low (p1.same.trans p2.same);rcases z with z|⟨rfl,z⟩
    ·exact jV z.2 e1
    ·have:=jV z e2;cases db<;>first|(cases this;done)|skip
     cases da<;>first|rfl|(cases q;done)⟩
  |ex z=>exact oW q
  |no=>rw[q]at k2;exact k2
theorem ph(ha:PE X a (tE w g c E ia)):PE X (.UnaryOp .USub a pos) (tE w g c E (.neg ia)):=
 PE.imp (vx xQ ha) λσ H Q ⟨τ,S,se,k⟩=>by
  simp only[qX,zb,qY,qU,qV,qW,za,zc,qZ,qw,qD,qH,qB,qE,qu,qA,qC,qq,qx,qz,qR,qs,qF,qQ,qG,qr,qP,qJ,qI,qy,qM,qO,qN,qS,qL,qK]at k;refine zd se k λda va H1 e1 p1 k1=>?_
  cases da with
  |int i=>exact⟨i,p1.rb.int,k1 _ _ (a8.of p1.same (.int _) rfl)⟩
  |_=>exact k1.elim
theorem jZ(O:XO w g c E X)(ix:Bool){x:Str}{i:Nat}{ap cp p q:Pos}{kk:Nat}(h:loc c x=some i)(hl:(ap.endLine==cp.line)=true) :
  PE X (.Call (.Attribute (.Name x p) (if ix then "index" else "count") ap) [.Constant (.bool true) kk q] [] cp) (tE w g c E (.mth ix (if c.own.contains x then .own i else .var i))):=by
 have hst:=qm (e:=.Constant (.bool true) kk q) (es:=[]) (env:=X.env) rfl;have pa:PA X [.Constant (.bool true) kk q] _:=zL lE cY hst;have hK:=O.K;cases ix with
 |false=>
  refine PE.imp (iN (X:=X) (apos:=ap) (cpos:=cp) PySem.F.plainAttrs_list PySem.F.slot_list_count (by rfl) pk (gE O h) pa rfl (by rw[hst];rfl) hl hst rfl) λσ H Q ⟨τ,S,se,k⟩=>?_
  simp only[qX,zb,qY,qU,qV,qW,za,zc,qZ,qw,qD,qH,qB,qE,qu,qA,qC,qq,qx,qz,qR,qs,qF,qQ,qG,qr,qP,qJ,qI,qy,qM,qO,qN,qS,qL,qK]at k;refine zd se k λda va H1 e1 p1 k1=>?_
  cases da with
  |lst xs=>
   obtain⟨a,vs,rfl,h1,h2⟩:=p1.rb.lst;simp only[fX,cG]at k1;cases e:bools? xs with
   |none=>rw[e]at k1;exact k1.elim
   |some bs=>
    rw[e]at k1;have:=h2.bools e;subst this;exact⟨.inl ⟨rfl,_,by rw[hK];exact h1⟩,a,bs,rfl,rfl,by rw[hK];exact h1,k1 _ _ (a8.of p1.same (.int _) rfl)⟩
  |_=>exact k1.elim
 |true=>
  refine PE.imp (iN (X:=X) (apos:=ap) (cpos:=cp) PySem.F.plainAttrs_list PySem.F.slot_list_index (by rfl) wM (gE O h) pa rfl (by rw[hst];rfl) hl hst rfl) λσ H Q ⟨τ,S,se,k⟩=>?_
  simp only[qX,zb,qY,qU,qV,qW,za,zc,qZ,qw,qD,qH,qB,qE,qu,qA,qC,qq,qx,qz,qR,qs,qF,qQ,qG,qr,qP,qJ,qI,qy,qM,qO,qN,qS,qL,qK]at k;refine zd se k λda va H1 e1 p1 k1=>?_
  cases da with
  |lst xs=>
   obtain⟨a,vs,rfl,h1,h2⟩:=p1.rb.lst;simp only[fX,cG]at k1;cases e:bools? xs with
   |none=>rw[e]at k1;exact k1.elim
   |some bs=>
    rw[e]at k1;have:=h2.bools e;subst this;simp only[b5]at k1;rw[if_pos trivial]at k1;cases ej:bs.findIdx? id with
    |none=>rw[ej]at k1;exact k1.elim
    |some j=>
     rw[ej]at k1;exact⟨.inl ⟨rfl,_,by rw[hK];exact h1⟩,a,bs,j,rfl,rfl,by rw[hK];exact h1,ej,k1 _ _ (a8.of p1.same (.int _) rfl)⟩
  |_=>exact k1.elim
theorem vS(O:XO w g c E X){o:Expr}{m:Str}{ap cp:Pos}{as:List Expr}{e:EV.E}(h:cMt c o m ap as cp=some e):PE X (.Call (.Attribute o m ap) as [] cp) (tE w g c E e):=by
 unfold cMt at h;split at h
 ·split at h
  ·split at h
   ·split at h
    ·split at h
     ·rename_i hx
      split at h
      ·rename_i hb
       simp only[aJ]at hb;obtain⟨rfl,hl⟩:=hb;split at h
       ·rename_i hm
        subst hm;cases h;exact jZ O false hx hl
       ·split at h
        ·rename_i hm
         subst hm;cases h;exact jZ O true hx hl
        ·cases h
      ·cases h
     ·cases h
    ·cases h
   ·cases h
  ·cases h
 ·cases h
theorem pQ(ha:PE X a (tE w g c E ia)):PE X (.UnaryOp .Invert a pos) (tE w g c E (.inv ia)):=λpins s σ H Q I ⟨τ,S,se,kk⟩=>by
 simp only[qX,zb,qY,qU,qV,qW,za,zc,qZ,qw,qD,qH,qB,qE,qu,qA,qC,qq,qx,qz,qR,qs,qF,qQ,qG,qr,qP,qJ,qI,qy,qM,qO,qN,qS,qL,qK]at kk;exact aP kk
theorem xR(ha:PE X a (tE w g c E ia)):PE X (.UnaryOp .Not a pos) (tE w g c E (.not ia)):=
 PE.imp (Aa ha) λσ H Q ⟨τ,S,se,k⟩=>by
  simp only[qX,zb,qY,qU,qV,qW,za,zc,qZ,qw,qD,qH,qB,qE,qu,qA,qC,qq,qx,qz,qR,qs,qF,qQ,qG,qr,qP,qJ,qI,qy,qM,qO,qN,qS,qL,qK]at k;refine zd se k λda va H1 e1 p1 k1=>?_
  cases da with
  |bl i=>exact⟨i,p1.rb.bl,k1 _ _ (a8.of p1.same (.bl _) rfl)⟩
  |_=>exact k1.elim
theorem a8.pass{e e':EV.E}{S:Sh}{H H1 H':Hp}{dd:D}{v:V}(s:qe H H1)(p:a8 g c e S H1 dd v H')(h:esc e=true)(f:fresh c e'=false):a8 g c e' S H dd v H':=a8.of (s.trans p.same) (p.st h) f
theorem vQ{rest:List Expr}{ir:EV.E}(ha:PE X a (tE w g c E ia))(hb:PE X (.BoolOp .And (b::rest) pos) (tE w g c E ir))(he:esc ir=true):PE X (.BoolOp .And (a::b::rest) pos) (tE w g c E (.and ia ir)):=
 PE.imp (sL ha hb) λσ H Q ⟨τ,S,se,k⟩=>by
  simp only[qX,zb,qY,qU,qV,qW,za,zc,qZ,qw,qD,qH,qB,qE,qu,qA,qC,qq,qx,qz,qR,qs,qF,qQ,qG,qr,qP,qJ,qI,qy,qM,qO,qN,qS,qL,qK]at k;refine zd se k λda va H1 e1 p1 k1=>?_
  cases da with
  |bl i=>
   refine⟨i,p1.rb.bl,?_⟩;cases i with
   |true=>
    refine⟨τ,S,se.up p1.same,tR.imp k1 λd hk v H' p=>hk v H' (p.pass p1.same he rfl)⟩
   |false=>exact k1 _ _ (a8.of p1.same (.bl _) rfl)
  |_=>exact k1.elim
theorem tB{rest:List Expr}{ir:EV.E}(ha:PE X a (tE w g c E ia))(hb:PE X (.BoolOp .Or (b::rest) pos) (tE w g c E ir))(he:esc ir=true):PE X (.BoolOp .Or (a::b::rest) pos) (tE w g c E (.or ia ir)):=
 PE.imp (sv ha hb) λσ H Q ⟨τ,S,se,k⟩=>by
  simp only[qX,zb,qY,qU,qV,qW,za,zc,qZ,qw,qD,qH,qB,qE,qu,qA,qC,qq,qx,qz,qR,qs,qF,qQ,qG,qr,qP,qJ,qI,qy,qM,qO,qN,qS,qL,qK]at k;refine zd se k λda va H1 e1 p1 k1=>?_
  cases da with
  |bl i=>
   refine⟨i,p1.rb.bl,?_⟩;cases i with
   |false=>
    refine⟨τ,S,se.up p1.same,tR.imp k1 λd hk v H' p=>hk v H' (p.pass p1.same he rfl)⟩
   |true=>exact k1 _ _ (a8.of p1.same (.bl _) rfl)
  |_=>exact k1.elim
theorem eX{op:CmpOp}{b:Expr}(h:zm b=true):behindInMarks op b=false:=by cases b<;>first|rfl|(simp[zm]at h)
theorem cR{o:C2}{S:Sh}{H:Hp}{da db:D}{va vb:V}{r:R Bool}{P:Bool->Prop}{Q:VK}(ra:zq g H S da va)(rb:zq g H S db vb)(q:tR g E H (ql o da db) P)(k:∀z,ql o da db=.ok z->P z->Q (.bl z) H):rCm g o va vb H Q:=by
 refine⟨S,da,db,ra,rb,?_⟩;cases e:ql o da db with
 |ok z=>rw[e]at q;exact k z e q
 |ex z=>exact wO e
 |no=>rw[e]at q;exact q
theorem tR.bnd{α β:Type}{H:Hp}{r:R α}{f:α->R β}{P:β->Prop}(h:tR g E H (r.bind f) P):tR g E H r λa=>tR g E H (f a) P:=by
 cases r with
 |ok a=>exact h
 |ex z=>exact h
 |no=>exact h
theorem y9(O:XO w g c E X){op:CmpOp}(ha:PE X a (tE w g c E ia))(hb:PE X b (tE w g c E ib))(hs:zm b=true):PE X (.Compare a [op] [b] pos) (tE w g c E (.cmp (c2 op) ia ib)):=
 PE.imp (p_ (cV O.K O.units op) ha hb (eX hs)) λσ H Q ⟨τ,S,se,k⟩=>by
  simp only[qX,zb,qY,qU,qV,qW,za,zc,qZ,qw,qD,qH,qB,qE,qu,qA,qC,qq,qx,qz,qR,qs,qF,qQ,qG,qr,qP,qJ,qI,qy,qM,qO,qN,qS,qL,qK]at k;refine zd se k λda va H1 e1 p1 k1=>zd (se.up p1.same) k1 λdb vb H2 e2 p2 k2=>?_
  exact cR (r:=.no) (p1.rb.mono p2.same) p2.rb (tR.bnd k2) λz _ q=>q _ _ (a8.of (p1.same.trans p2.same) (.bl _) rfl)
theorem sQ(O:XO w g c E X){op:CmpOp}(ha:PE X a (tE w g c E ia))(hb:PE X b (tE w g c E ib))(hs:zm b=true):PT X (.Compare a [op] [b] pos) (tT w g c E (.cmp (c2 op) ia ib)):=
 PT.imp (vP (cV O.K O.units op) ha hb (eX hs)) λσ H Q ⟨τ,S,se,k⟩=>by
  simp only[dE,dF,dU,dM,dP,dQ,dH]at k;refine zd se k λda va H1 e1 p1 k1=>zd (se.up p1.same) k1 λdb vb H2 e2 p2 k2=>?_
  exact cR (r:=.no) (p1.rb.mono p2.same) p2.rb k2 λz _ q=>⟨z,rfl,q _ (p1.same.trans p2.same)⟩
theorem oI(O:XO w g c E X){op op':CmpOp}(ha:PE X a (tE w g c E ia))(hb:PE X b (tE w g c E ib))(hd:PE X d (tE w g c E id'))(hs':zm d=true):PE X (.Compare a [op,op'] [b,d] pos) (tE w g c E (.cmp2 (c2 op) (c2 op') ia ib id')):=
 PE.imp (sN (cV O.K O.units op) (cV O.K O.units op') ha hb hd (eX hs')) λσ H Q ⟨τ,S,se,k⟩=>by
  simp only[qX,zb,qY,qU,qV,qW,za,zc,qZ,qw,qD,qH,qB,qE,qu,qA,qC,qq,qx,qz,qR,qs,qF,qQ,qG,qr,qP,qJ,qI,qy,qM,qO,qN,qS,qL,qK]at k;refine zd se k λda va H1 e1 p1 k1=>zd (se.up p1.same) k1 λdb vb H2 e2 p2 k2=>?_
  have s2:=p1.same.trans p2.same;refine cR (r:=.no) (p1.rb.mono p2.same) p2.rb (tR.bnd k2) λz _ q=>⟨z,rfl,?_⟩
  cases z with
  |true=>
   exact zd (se.up s2) q λdd vd H3 e3 p3 k3=>cR (r:=.no) (p2.rb.mono p3.same) p3.rb (tR.bnd k3) λz _ q=>q _ _ (a8.of (s2.trans p3.same) (.bl _) rfl)
  |false=>exact q _ _ (a8.of s2 (.bl _) rfl)
theorem rY(O:XO w g c E X){op op':CmpOp}(ha:PE X a (tE w g c E ia))(hb:PE X b (tE w g c E ib))(hd:PE X d (tE w g c E id'))(hs':zm d=true):PT X (.Compare a [op,op'] [b,d] pos) (tT w g c E (.cmp2 (c2 op) (c2 op') ia ib id')):=
 PT.imp (um (cV O.K O.units op) (cV O.K O.units op') ha hb hd (eX hs')) λσ H Q ⟨τ,S,se,k⟩=>by
  simp only[dE,dF,dU,dM,dP,dQ,dH]at k;refine zd se k λda va H1 e1 p1 k1=>zd (se.up p1.same) k1 λdb vb H2 e2 p2 k2=>?_
  have s2:=p1.same.trans p2.same;refine cR (r:=.no) (p1.rb.mono p2.same) p2.rb (tR.bnd k2) λz _ q=>⟨z,rfl,?_⟩
  cases z with
  |true=>
   exact zd (se.up s2) q λdd vd H3 e3 p3 k3=>cR (r:=.no) (p2.rb.mono p3.same) p3.rb k3 λz _ q=>⟨z,rfl,q _ (s2.trans p3.same)⟩
  |false=>exact⟨false,rfl,q _ s2⟩
theorem As(O:XO w g c E X){op op' op'':CmpOp}(ha:PE X a (tE w g c E ia))(hb:PE X b (tE w g c E ib))(hd:PE X d (tE w g c E id'))(hf:PE X f (tE w g c E if'))(hs':zm f=true):PE X (.Compare a [op,op',op''] [b,d,f] pos) (tE w g c E (.cmp3 (c2 op) (c2 op') (c2 op'') ia ib id' if')):=
 PE.imp (vw (cV O.K O.units op) (cV O.K O.units op') (cV O.K O.units op'') ha hb hd hf (eX hs')) λσ H Q ⟨τ,S,se,k⟩=>by
  simp only[qX,zb,qY,qU,qV,qW,za,zc,qZ,qw,qD,qH,qB,qE,qu,qA,qC,qq,qx,qz,qR,qs,qF,qQ,qG,qr,qP,qJ,qI,qy,qM,qO,qN,qS,qL,qK]at k;refine zd se k λda va H1 e1 p1 k1=>zd (se.up p1.same) k1 λdb vb H2 e2 p2 k2=>?_
  have s2:=p1.same.trans p2.same;refine cR (r:=.no) (p1.rb.mono p2.same) p2.rb (tR.bnd k2) λz _ q=>⟨z,rfl,?_⟩
  cases z with
  |true=>
   refine zd (se.up s2) q λdd vd H3 e3 p3 k3=>cR (r:=.no) (p2.rb.mono p3.same) p3.rb (tR.bnd k3) λz _ q=>⟨z,rfl,?_⟩
   have s3:=s2.trans p3.same;cases z with
   |true=>exact zd (se.up s3) q λdf vf H4 e4 p4 k4=>cR (r:=.no) (p3.rb.mono p4.same) p4.rb (tR.bnd k4) λz _ q=>q _ _ (a8.of (s3.trans p4.same) (.bl _) rfl)
   |false=>exact q _ _ (a8.of s3 (.bl _) rfl)
  |false=>exact q _ _ (a8.of s2 (.bl _) rfl)
theorem vi{a b c d:Expr}{ta tb tc td:TE}{pos:Pos}{op op' op'':CmpOp}{r r' r'':R2}(ho:OpR X (aQ op) r)(ho':OpR X (aQ op') r')(ho'':OpR X (aQ op'') r'')(ha:PE X a ta)(hb:PE X b tb)(hc:PE X c tc)(hd:PE X d td)
  (hm:lastMarks [op,op',op''] [b,c,d]=false):PT X (.Compare a [op,op',op''] [b,c,d] pos) (i8 (mX r r' r'' ta tb tc td)):=by
 intro pins s σ H Q I h;refine isTrue_chain (thn (ha pins s σ H _ I h) λv s1 ⟨x,H1,I1,r1,q1⟩=>test_link (thn (hb pins s1 σ H1 _ I1 q1) λu s2 ⟨y,H2,I2,r2,q2⟩=>
  thn (ho pins s2 σ H2 x y v u _ I2 r1 r2 q2) λd s3 ⟨z,H3,I3,r3,k,e,q3⟩=>?_)) hm
 subst e;cases r3;refine bB ?_;cases k with
 |false=>
  obtain⟨k',e',q'⟩:=q3;cases e';exact ite_ff ⟨H3,I3,q'⟩
 |true=>
  refine ite_tt (test_link (thn (hc pins s3 σ H3 _ I3 q3) λw' s4 ⟨z',H4,I4,r4,q4⟩=>thn (ho' pins s4 σ H4 y z' u w' _ I4 r2 r4 q4) λd' s5 ⟨z2,H5,I5,r5,k2,e2,q5⟩=>?_));subst e2;cases r5;refine bB ?_;cases k2 with
  |false=>
   obtain⟨k',e',q'⟩:=q5;cases e';exact ite_ff ⟨H5,I5,q'⟩
  |true=>
   refine ite_tt (test_last (thn (hd pins s5 σ H5 _ I5 q5) λw'' s6 ⟨z3,H6,I6,r6,q6⟩=>thn (ho'' pins s6 σ H6 z' z3 w' w'' _ I6 r4 r6 q6) λd'' s7 ⟨z4,H7,I7,r7,k4,e4,q7⟩=>?_));subst e4;cases r7;exact bB ⟨H7,I7,q7⟩
theorem R.bind_assoc{α β γ:Type}(r:R α)(f:α->R β)(h:β->R γ):(r.bind f).bind h=r.bind λa=>(f a).bind h:=by cases r<;>rfl
theorem yx(O:XO w g c E X){op op' op'':CmpOp}(ha:PE X a (tE w g c E ia))(hb:PE X b (tE w g c E ib))(hd:PE X d (tE w g c E id'))(hf:PE X f (tE w g c E if'))(hs':zm f=true):PT X (.Compare a [op,op',op''] [b,d,f] pos) (tT w g c E (.val (.cmp3 (c2 op) (c2 op') (c2 op'') ia ib id' if'))):=
 PT.imp (vi (cV O.K O.units op) (cV O.K O.units op') (cV O.K O.units op'') ha hb hd hf (eX hs')) λσ H Q ⟨τ,S,se,k⟩=>by
  simp only[dE,dF,dU,dM,dP,dQ,dH,qX,zb,qY,qU,qV,qW,za,zc,qZ,qw,qD,qH,qB,qE,qu,qA,qC,qq,qx,qz,qR,qs,qF,qQ,qG,qr,qP,qJ,qI,qy,qM,qO,qN,qS,qL,qK,R.bind_assoc]at k;refine zd se k λda va H1 e1 p1 k1=>zd (se.up p1.same) k1 λdb vb H2 e2 p2 k2=>?_
  have s2:=p1.same.trans p2.same;refine cR (r:=.no) (p1.rb.mono p2.same) p2.rb (tR.bnd k2) λz _ q=>⟨z,rfl,?_⟩
  cases z with
  |true=>
   simp only[if_true,R.bind_assoc]at q;refine zd (se.up s2) q λdd vd H3 e3 p3 k3=>cR (r:=.no) (p2.rb.mono p3.same) p3.rb (tR.bnd k3) λz _ q=>⟨z,rfl,?_⟩
   have s3:=s2.trans p3.same;cases z with
   |true=>
    simp only[if_true,R.bind_assoc]at q;exact zd (se.up s3) q λdf vf H4 e4 p4 k4=>cR (r:=.no) (p3.rb.mono p4.same) p4.rb (tR.bnd k4) λz _ q=>⟨z,rfl,q _ (s3.trans p4.same)⟩
   |false=>exact⟨false,rfl,q _ s3⟩
  |false=>exact⟨false,rfl,q _ s2⟩
theorem xB(ht:PT X d (tT w g c E ta))(ha:PE X a (tE w g c E ia))(hb:PE X b (tE w g c E ib))(h1:esc ia=true)(h2:esc ib=true):PE X (.IfExp d a b pos) (tE w g c E (.ite ta ia ib)):=
 PE.imp (AN ht ha hb) λσ H Q ⟨τ,S,se,k⟩=>by
  simp only[qX,zb,qY,qU,qV,qW,za,zc,qZ,qw,qD,qH,qB,qE,qu,qA,qC,qq,qx,qz,qR,qs,qF,qQ,qG,qr,qP,qJ,qI,qy,qM,qO,qN,qS,qL,qK]at k;refine gr se k λz H1 e1 s1 k1=>?_
  cases z with
  |true=>exact⟨τ,S,se.up s1,tR.imp k1 λdd hk v H' p=>hk v H' (p.pass s1 h1 rfl)⟩
  |false=>exact⟨τ,S,se.up s1,tR.imp k1 λdd hk v H' p=>hk v H' (p.pass s1 h2 rfl)⟩
theorem tD:PA X [] (tA w g c E .nil):=PA.imp cY λσ H Q ⟨τ,S,se,k⟩=>k [] H (qe.refl _) .nil λ_=>.nil
theorem o5{es:List Expr}{ies:Es}(ha:PE X a (tE w g c E ia))(hr:PA X es (tA w g c E ies))(hs:isStar a=false):PA X (a::es) (tA w g c E (.cons ia ies)):=
 PA.imp (zL ha hr (qm hs)) λσ H Q ⟨τ,S,se,k⟩=>by
  simp only[zo]at k;refine zd se k λda va H1 e1 p1 k1=>eU (se.up p1.same) k1 λds vs H2 e2 s2 r2 r2' k2=>k2 _ _ (p1.same.trans s2) (.cons (p1.rb.mono s2) r2) λz=>?_
  simp only[cZ,aJ]at z;exact .cons ((p1.st z.1).mono (qT s2)) (r2' z.2)
theorem h8:∀{es:Es}{τ:Env}{ds:List D}{l:List Expr}{n:Nat},cEs n c l=some es->zo w es τ=.ok ds->ds.length=l.length
 |_,_,_,l,0,h,_=>by simp[cEs]at h
 |es,τ,ds,[],n+1,h,e=>by
  simp only[cEs,bN]at h;subst h;simp only[zo,R.ok.injEq]at e;subst e;rfl
 |es,τ,ds,x::l,n+1,h,e=>by
  simp only[cEs]at h;cases hs:isStar x with
  |true=>simp[hs]at h
  |false=>
   simp only[hs,b9,if_false,aB,az]at h;obtain⟨i1,_,r,hr,h⟩:=h;cases h;simp only[zo]at e;cases q:evE w i1 τ with
   |ok z=>
    rw[q]at e;simp only[R.bind_ok]at e;cases q2:zo w r τ with
    |ok zs=>
     rw[q2]at e;cases e;simp[h8 hr q2]
    |ex z=>rw[q2]at e;cases e
    |no=>rw[q2]at e;cases e
   |ex z=>rw[q]at e;cases e
   |no=>rw[q]at e;cases e
theorem i9{n:Nat}(h:n<=100000):n<=sizeLine:=aZ h (by rw[a0];decide)
theorem ud{es:List Expr}{ies:Es}{k:Nat}(ha:PA X es (tA w g c E ies))(he:cZ ies=true)(hl:∀τ ds,zo w ies τ=.ok ds->ds.length<=100000):PE X (.Tuple es k pos) (tE w g c E (.tup ies)):=
 PE.imp (om ha) λσ H Q ⟨τ,S,se,k⟩=>by
  simp only[qX,zb,qY,qU,qV,qW,za,zc,qZ,qw,qD,qH,qB,qE,qu,qA,qC,qq,qx,qz,qR,qs,qF,qQ,qG,qr,qP,qJ,qI,qy,qM,qO,qN,qS,qL,qK]at k;refine eU se k λds vs H1 e1 s1 r1 r1' k1=>?_
  have r:=r1' he;exact⟨by rw[<-r.length];exact i9 (hl _ _ e1),λp hp=>k1 _ _ (a8.of (s1.trans (zk hp)) (eT (se.sub.same s1) hp r) rfl)⟩
theorem wW{es:List Expr}{ies:Es}(ha:PA X es (tA w g c E ies))(he:cZ ies=true)(hl:∀τ ds,zo w ies τ=.ok ds->ds.length<=100000):PE X (.List es pos) (tE w g c E (.lst ies)):=
 PE.imp (wg ha) λσ H Q ⟨τ,S,se,k⟩=>by
  simp only[qX,zb,qY,qU,qV,qW,za,zc,qZ,qw,qD,qH,qB,qE,qu,qA,qC,qq,qx,qz,qR,qs,qF,qQ,qG,qr,qP,qJ,qI,qy,qM,qO,qN,qS,qL,qK]at k;refine eU se k λds vs H1 e1 s1 r1 r1' k1=>?_
  have r:=r1' he;exact⟨by rw[<-r.length];exact i9 (hl _ _ e1),λp hp=>k1 _ _ (a8.new (s1.trans (zk hp)) (el (se.sub.same s1) hp r) (eV s1 hp r))⟩
theorem o_{b:Expr}(h:isSlice b=false):l4 b:=λo i=>by cases b<;>first|rfl|(simp[isSlice]at h)
theorem wF(O:XO w g c E X)(ha:PE X a (tE w g c E ia))(hb:PE X b (tE w g c E ib))(hs:isSlice b=false):PE X (.Subscript a b pos) (tE w g c E (.ix ia ib)):=
 PE.imp (xA (wB O.K) ha hb (o_ hs)) λσ H Q ⟨τ,S,se,k⟩=>by
  simp only[qX,zb,qY,qU,qV,qW,za,zc,qZ,qw,qD,qH,qB,qE,qu,qA,qC,qq,qx,qz,qR,qs,qF,qQ,qG,qr,qP,qJ,qI,qy,qM,qO,qN,qS,qL,qK]at k;refine zd se k λda va H1 e1 p1 k1=>zd (se.up p1.same) k1 λdb vb H2 e2 p2 k2=>⟨S,da,db,p1.rb.mono p2.same,p2.rb,?_⟩
  cases q:ixD da db with
  |ok r=>rw[q]at k2;exact λv r=>k2 v H2 (a8.of (p1.same.trans p2.same) r rfl)
  |ex z=>exact yX q
  |no=>rw[q]at k2;exact k2
theorem ot(O:XO w g c E X){lo hi:Option Expr}{il ih:OE}(ha:PE X a (tE w g c E ia))(hl:PO X lo (tOe w g c E il))(hh:PO X hi (tOe w g c E ih)):PE X (.Subscript a (.Slice lo hi none p2) pos) (tE w g c E (.sl ia il ih)):=
 PE.imp (vv (yO O.K) ha hl hh) λσ H Q ⟨τ,S,se,k⟩=>by
  simp only[qX,zb,qY,qU,qV,qW,za,zc,qZ,qw,qD,qH,qB,qE,qu,qA,qC,qq,qx,qz,qR,qs,qF,qQ,qG,qr,qP,qJ,qI,qy,qM,qO,qN,qS,qL,qK]at k;refine zd se k λda va H1 e1 p1 k1=>k_ (se.up p1.same) k1 λl H2 e2 s2 k2=>k_ (se.up (p1.same.trans s2)) k2 λh H3 e3 s3 k3=>?_
  have s:=(p1.same.trans s2).trans s3;refine⟨S,da,se.sub.same s,p1.rb.mono (s2.trans s3),?_⟩;cases q:slD da l h with
  |ok r=>rw[q]at k3;exact λv H' s' r=>k3 v H' (a8.of (s.trans s') r rfl)
  |ex z=>exact Au q
  |no=>rw[q]at k3;exact k3
theorem xP:PO X none (tOe w g c E .none):=PO.imp wo λσ H Q ⟨τ,S,se,k⟩=>k H (qe.refl _)
theorem oX(ha:PE X a (tE w g c E ia)):PO X (some a) (tOe w g c E (.some ia)):=PO.imp (v_ ha) λσ H Q ⟨τ,S,se,k⟩=>by
 simp only[evO]at k;refine zd se k λda va H1 e1 p1 k1=>?_
 cases da with
 |int i=>exact⟨i,p1.rb.int,k1 _ p1.same⟩
 |_=>exact k1.elim
theorem ym(O:XO w g c E X){x:Str}{fr:Bool}{e:Expr}{es:List Expr}{ies:Es}(h:glob c x=some (.fn fr))(ha:PA X (e::es) (tA w g c E ies))(he:cZ ies=true)(hs:∀z∈e::es,isStar z=false):PE X (.Call (.Name x p2) (e::es) [] pos) (tE w g c E (.call x ies)):=by
 obtain⟨f,h1,h2⟩:=O.gm h;refine PE.imp (z_ O h2 (O.gl h) (ze h).2.2.1 ha hs) λσ H Q ⟨τ,S,se,k⟩=>?_
 simp only[qX,zb,qY,qU,qV,qW,za,zc,qZ,qw,qD,qH,qB,qE,qu,qA,qC,qq,qx,qz,qR,qs,qF,qQ,qG,qr,qP,qJ,qI,qy,qM,qO,qN,qS,qL,qK]at k;refine eU se k λds vs H1 e1 s1 r1 r1' k1=>⟨S,ds,se.sub.same s1,by rw[List.append_nil];exact r1' he,tR.imp k1 λdd hk v H' s' r f=>hk v H' ⟨s1.trans s',.inl r,λ_=>r,λz=>?_⟩⟩
 simp only[fresh,(ze h).2.1,beq_iff_eq,bN,GK.fn.injEq]at z;exact(f z).low s1
noncomputable def gA(S:Sh)(L:List Addr):Sh:=⟨λ_=>false,λb=>S.h b && !L.contains b,S.z,S.y⟩
theorem nI{H:Hp}{S:Sh}{L:List Addr}:qe (hid H S) (hid H (gA S L)):=λb o h=>by
 obtain⟨h1,h2⟩:=bA.mp h;exact bA.mpr ⟨by show (S.h b&&_)=false;rw[h1];rfl,h2⟩
theorem oA{H:Hp}{S:Sh}{L:List Addr}{a:Addr}:qe (hid H (gA S L)) (hid H (gA S (a::L))):=λb o h=>by
 obtain⟨h1,h2⟩:=bA.mp h;refine bA.mpr ⟨?_,h2⟩;have h1:(S.h b && !L.contains b)=false:=h1;show (S.h b && !(a::L).contains b)=false;cases q:S.h b with
 |false=>rfl
 |true=>
  rw[q]at h1;have h1:L.contains b=true:=by simpa using h1
  simp only[List.contains_cons,h1,Bool.or_true];rfl
theorem seen{H:Hp}{S:Sh}:∀{ds:List D}{vs:List V},dN g H S ds vs->∃L:List Addr,(∀a∈L,∃us,H a=some (.lst us))/\qt g (hid H (gA S L)) ds vs
 |_,_,.nil=>⟨[],by simp,.nil⟩
 |_,_,.cons r t=>by
  obtain⟨L,h1,h2⟩:=seen t;rcases r with r|⟨a,us,ds,z1,rfl,rfl,z4,z5⟩
  ·exact⟨L,h1,.cons (r.mono nI) h2⟩
  ·refine⟨a::L,λb hb=>?_,.cons (.lst (SqL.of (bA.mpr ⟨?_,z4⟩)) (z5.mono nI)) (h2.mono oA)⟩
   ·rcases aG.mp hb with rfl|hb
    ·exact⟨us,z4⟩
    ·exact h1 b hb
   ·show (S.h a && !(a::L).contains a)=false;simp
theorem uN(O:XO w g c E X){x:Str}{fr:Bool}{e:Expr}{es:List Expr}{ies:Es}(h:glob c x=some (.fn fr))(ha:PA X (e::es) (tA w g c E ies))(hs:∀z∈e::es,isStar z=false):PE X (.Call (.Name x p2) (e::es) [] pos) (tE w g c E (.callo x ies)):=λpins s σ H Q I ⟨τ,S,se,kk⟩=>by
 simp only[qX,zb,qY,qU,qV,qW,za,zc,qZ,qw,qD,qH,qB,qE,qu,qA,qC,qq,qx,qz,qR,qs,qF,qQ,qG,qr,qP,qJ,qI,qy,qM,qO,qN,qS,qL,qK]at kk;exact aP kk
theorem xw:PE X (.Dict [] [] pos) (tE w g c E .dic):=PE.imp xv λσ H Q ⟨τ,S,se,k⟩ p hp=>by
 simp only[qX,zb,qY,qU,qV,qW,za,zc,qZ,qw,qD,qH,qB,qE,qu,qA,qC,qq,qx,qz,qR,qs,qF,qQ,qG,qr,qP,qJ,qI,qy,qM,qO,qN,qS,qL,qK]at k;exact k _ _ (a8.of (zk hp) (.dic (iI se.sub hp)) rfl)
theorem m6{b:B1}{S:Sh}{H0 H:Hp}{ds:List D}{vs:List V}{Q:VK}{ies:Es}(s:qe H0 H)(hS:Sub S H)(r:dN g H S ds vs)(k:tR g E H (b1 b ds) λd=>∀v H',a8 g c (.bi b ies) S H0 d v H'->Q v H'):rB1 g b vs H Q:=by
 refine⟨S,ds,hS,r,?_⟩;cases q:b1 b ds with
 |ok d=>
  rw[q]at k;exact λv H' s' r' f=>k v H' ⟨s.trans s',.inl r',λ_=>r',λz=>by
   have:b=.list\/b=.sorted:=by cases b<;>simp[fresh]at z ⊢
   exact(f this).low s⟩
 |ex z=>exact sC q
 |no=>rw[q]at k;exact k
theorem AI(O:XO w g c E X){x:Str}{b:B1}{e:Expr}{es:List Expr}{ies:Es}(h:glob c x=some (.bi b))(hc:X.calm=true\/b=.len\/b=.abs)(ha:PA X (e::es) (tA w g c E ies))(hs:∀z∈e::es,isStar z=false):PE X (.Call (.Name x p2) (e::es) [] pos) (tE w g c E (.bi b ies)):=by
 obtain⟨h1,h2,id,h3⟩:=O.gm h;have hb:=pZ b;rw[<-h2,h3]at hb;have hcall:=m5 (X:=X) (g:=g) O.K O.units b (by rcases hc with z|z|z;exact .inl z;exact .inr (.inl z);exact .inr (.inr (.inl z)));rw[h3]at hcall;refine PE.imp (l8 hcall (O.gl h) h1 hb ha (ze h).2.2.2 (ze h).2.2.1 (qm (hs e aL)) (fz λz hz=>hs z (aI _ hz))) λσ H Q ⟨τ,S,se,k⟩=>?_
 simp only[qX,zb,qY,qU,qV,qW,za,zc,qZ,qw,qD,qH,qB,qE,qu,qA,qC,qq,qx,qz,qR,qs,qF,qQ,qG,qr,qP,qJ,qI,qy,qM,qO,qN,qS,qL,qK]at k;exact eU se k λds vs H1 e1 s1 r1 r1' k1=>m6 (ies:=ies) s1 (se.sub.same s1) r1 k1
theorem Av(O:XO w g c E X){x:Str}{n:String}{b:B1}{e:Expr}{es:List Expr}{ies:Es}(h:glob c x=some (.ty n (some b)))(ha:PA X (e::es) (tA w g c E ies))(hs:∀z∈e::es,isStar z=false):PE X (.Call (.Name x p2) (e::es) [] pos) (tE w g c E (.bi b ies)):=by
 obtain⟨h1,h2,_,h3⟩:=O.gm h;obtain⟨_,h4⟩:=h3 b rfl;have hcall:=m5 (X:=X) (g:=g) O.K O.units b (by cases b<;>simp[b1V]at h4 ⊢);rw[h4]at hcall;refine PE.imp (pJ hcall (O.gl h) h1 h2 ha (ze h).2.2.2 (ze h).2.2.1 (qm (hs e aL)) (fz λz hz=>hs z (aI _ hz))) λσ H Q ⟨τ,S,se,k⟩=>?_
 simp only[qX,zb,qY,qU,qV,qW,za,zc,qZ,qw,qD,qH,qB,qE,qu,qA,qC,qq,qx,qz,qR,qs,qF,qQ,qG,qr,qP,qJ,qI,qy,qM,qO,qN,qS,qL,qK]at k;exact eU se k λds vs H1 e1 s1 r1 r1' k1=>m6 (ies:=ies) s1 (se.sub.same s1) r1 k1
end
section
variable{w:W}{g:Gc}{c:Cc}{E:XK}{X:Cx}{a b d f:Expr}{ia ib id' if':EV.E}{pos p2:Pos}{ta tb:T}
noncomputable def uC(w:W)(g:Gc)(d:D)(vc:V)(bb:Bool):Cl->Prop
 | .ty n=>vc=.ty n/\((n∈["int","bool","str","list","tuple"]/\∃t,tyD d=some t/\bb=ey t n)\/∃k,d=.exn k/\w.sub k.nm (.ty n)=some bb)
 | .ex x=>∃D k,g.clA x=some D/\vc=.ref D/\d=.exn k/\w.sub k.nm (.ex x)=some bb
noncomputable def clV(g:Gc)(vc:V):Cl->Prop
 | .ty n=>vc=.ty n/\(n∈["int","bool","str","list","tuple"]\/n = "ValueError")
 | .ex x=>∃D,g.clA x=some D/\vc=.ref D
theorem rS(O:XO w g c E X):zg X (.builtin "isinstance") (λxs H Q=>∃(S:Sh) (d:D) (v:V) (cl:Cl) (vc:V) (bb:Bool),xs=[v,vc]/\zq g H S d v/\uC w g d vc bb cl/\Q (.bl bb) H):=by
 have k:=(sD (X:=X) (g:=g) O.K).or (pe (X:=X));refine zg.imp k λxs H Q ⟨S,d,v,cl,vc,bb,e,rd,h,q⟩=>?_
 have exn:∀(kk:Xc) (cv:ae),d=.exn kk->jt vc=some cv->(∃C,g.clA kk.nm=some C/\zD g.K C/\a_ g.K (.ref C) cv=some bb)->∃x c cv t b,xs=[x,c]/\jt c=some cv/\TyX X.K H x t/\a_ X.K t cv=some b/\Q (.bl b) H:=λkk cv ed hv ⟨C,h1,h2,h3⟩=>by
  subst ed;cases rd.rep with
  | @exn _ a C' dx z1 z2 _ _=>
   rw[h1]at z1;cases z1;exact⟨_,vc,cv,.ref C,bb,e,hv,.inr ⟨a,C,_,rfl,rfl,z2,by rw[O.K];exact h2⟩,by rw[O.K];exact h3,q⟩
 cases cl with
 |ty n=>
  obtain⟨rfl,⟨hn,t,ht,rfl⟩|⟨kk,rfl,hk⟩⟩:=h
  ·exact .inl ⟨S,d,v,n,t,e,rd,ht,hn,q⟩
  ·obtain⟨C,cv,z1,z2,z3,z4,z5⟩:=O.sub kk.nm (.ty n) bb hk;exact .inr (exn kk (.type n) rfl rfl ⟨C,z1,z2,z5▸z3⟩)
 |ex x=>
  obtain⟨D,kk,h1,rfl,rfl,hk⟩:=h;obtain⟨C,cv,z1,z2,z3,D',z4,z5⟩:=O.sub kk.nm (.ex x) bb hk;rw[h1]at z4;cases z4;exact .inr (exn kk (.ref D) rfl rfl ⟨C,z1,z2,z5▸z3⟩)
theorem pD{x:D}{cl:Cl}:(∃t n,tyD x=some t/\cl=.ty n/\n≠"ValueError"/\zM w x cl=.ok (.bl (ey t n)))\/(∃k b,x=.exn k/\w.sub k.nm cl=some b/\zM w x cl=.ok (.bl b))\/zM w x cl=.no:=by
 unfold zM;cases e:tyD x with
 |some t=>
  cases cl with
  |ty n=>
   by_cases hn:n = "ValueError"
   ·exact .inr (.inr (by simp[hn]))
   ·exact .inl ⟨t,n,rfl,rfl,hn,by simp[hn]⟩
  |ex y=>exact .inr (.inr rfl)
 |none=>
  cases x with
  |exn k=>
   cases q:w.sub k.nm cl with
   |none=>exact .inr (.inr (by simp[q]))
   |some b=>exact .inr (.inl ⟨k,b,rfl,q,by simp[q]⟩)
  |fn y=>exact .inr (.inr (by cases cl<;>rfl))
  |_=>cases e
theorem uw(O:XO w g c E X){x:Str}{k:Expr}{cl:Cl}(h:glob c x=some .isi)(ha:PE X a (tE w g c E ia))(hk:gF c k=some cl)(hs:isStar a=false):PE X (.Call (.Name x p2) [a,k] [] pos) (tE w g c E (.isi ia cl)):=by
 obtain⟨h1,rfl⟩:=O.gm h;obtain⟨y,q,rfl⟩:∃y q,k=.Name y q:=by
  cases k<;>first|exact⟨_,_,rfl⟩|(simp[gF]at hk)
 obtain⟨vc,hv,hc⟩:∃vc,PE X (.Name y q) (tC vc)/\clV g vc cl:=by
  simp only[gF]at hk;split at hk
  ·rename_i n b e
   cases hk;obtain⟨z1,z2,z3,_⟩:=O.gm e;exact⟨.ty n,wZ (O.gl e) z1 z2 rfl (ze e).2.2.2 (ze e).2.2.1,rfl,z3⟩
  ·rename_i e
   cases hk;obtain⟨C,z1,z2⟩:=O.gm e;exact⟨.ref C,gJ (O.gl e) z1 rfl (ze e).2.2.1,C,z2,rfl⟩
  ·rename_i e
   cases hk;obtain⟨C,z1,z2⟩:=O.gm e;exact⟨.ref C,gJ (O.gl e) z1 rfl (ze e).2.2.1,C,z2,rfl⟩
  ·rename_i e
   cases hk;obtain⟨C,z1,z2⟩:=O.gm e;exact⟨.ref C,gJ (O.gl e) z1 rfl (ze e).2.2.1,C,z2,rfl⟩
  ·cases hk
 refine PE.imp (l8 (rS O) (O.gl h) h1 (by decide +kernel) (zL ha (zL hv cY) (qm hs)) (by decide) (by decide) (qm hs) rfl) λσ H Q ⟨τ,S,se,k⟩=>?_
 simp only[qX,zb,qY,qU,qV,qW,za,zc,qZ,qw,qD,qH,qB,qE,qu,qA,qC,qq,qx,qz,qR,qs,qF,qQ,qG,qr,qP,qJ,qI,qy,qM,qO,qN,qS,qL,qK]at k;refine zd se k λda va H1 e1 p1 k1=>?_
 rcases pD (w:=w) (x:=da) (cl:=cl)with ⟨t,n,z1,rfl,z2,z3⟩|⟨kk,bb,rfl,z2,z3⟩|z3
 ·rw[z3]at k1;obtain⟨rfl,hc|hc⟩:=hc
  ·exact⟨S,da,va,.ty n,.ty n,_,rfl,p1.rb,⟨rfl,.inl ⟨hc,t,z1,rfl⟩⟩,k1 _ _ (a8.of p1.same (.bl _) rfl)⟩
  ·exact absurd hc z2
 ·rw[z3]at k1;refine⟨S,.exn kk,va,cl,vc,bb,rfl,p1.rb,?_,k1 _ _ (a8.of p1.same (.bl _) rfl)⟩;cases cl with
  |ty n=>exact⟨hc.1,.inr ⟨kk,rfl,z2⟩⟩
  |ex x=>obtain⟨D,z4,z5⟩:=hc;exact⟨D,kk,z4,z5,rfl,z2⟩
 ·rw[z3]at k1;exact k1.elim
theorem xU(O:XO w g c E X)(ha:PE X a (tE w g c E ia))(he:∀whole,isTrue a X.env whole=(do let v <-whole;standAt a.pos;holding [v] (truthy v))):PT X a (tT w g c E (.val ia)):=
 PT.imp (oy ha he) λσ H Q ⟨τ,S,se,k⟩=>by
  simp only[dE,dF,dU,dM,dP,dQ,dH]at k;refine zd se k λda va H1 e1 p1 k1=>?_
  cases q:truth da with
  |ok z=>rw[q]at k1;exact⟨z,yp O.K p1.rb q,k1 _ p1.same⟩
  |ex z=>exact absurd q sx
  |no=>rw[q]at k1;exact k1.elim
theorem vI(ha:PT X a (tT w g c E ta)):PT X (.UnaryOp .Not a pos) (tT w g c E (.not ta)):=
 PT.imp (rg ha) λσ H Q ⟨τ,S,se,k⟩=>by
  simp only[dE,dF,dU,dM,dP,dQ,dH]at k;exact gr se k λz H1 e1 s1 k1=>k1 _ s1
theorem sP{rest:List Expr}(ha:PT X a (tT w g c E ta))(hb:PW X (.BoolOp .And (b::rest) pos) (tT w g c E tb)):PW X (.BoolOp .And (a::b::rest) pos) (tT w g c E (.and ta tb)):=
 PW.imp (yM ha hb) λσ H Q ⟨τ,S,se,k⟩=>by
  simp only[dE,dF,dU,dM,dP,dQ,dH]at k;refine gr se k λz H1 e1 s1 k1=>?_
  cases z with
  |true=>exact⟨τ,S,se.up s1,tR.imp k1 λb hk H' s=>hk H' (s1.trans s)⟩
  |false=>exact k1 _ s1
theorem AO{rest:List Expr}(ha:PT X a (tT w g c E ta))(hb:PW X (.BoolOp .Or (b::rest) pos) (tT w g c E tb)):PW X (.BoolOp .Or (a::b::rest) pos) (tT w g c E (.or ta tb)):=
 PW.imp (uJ ha hb) λσ H Q ⟨τ,S,se,k⟩=>by
  simp only[dE,dF,dU,dM,dP,dQ,dH]at k;refine gr se k λz H1 e1 s1 k1=>?_
  cases z with
  |false=>exact⟨τ,S,se.up s1,tR.imp k1 λb hk H' s=>hk H' (s1.trans s)⟩
  |true=>exact k1 _ s1
theorem PI.or{tg e:Expr}{t t':TI}(h:PI X tg e t)(h':PI X tg e t'):PI X tg e (λσ H R=>t σ H R\/t' σ H R):=λpins s σ H R I q=>by
 rcases q with q|q
 ·exact h pins s σ H R I q
 ·exact h' pins s σ H R I q
theorem nC{K:aq}{a:Addr}{vs:List V}{ds:List D}{H:Hp}{S:Sh}(hl:SqL K H a vs)(r:qt g (hid H S) ds vs):Goes g (Itl K a) ds H S:=by
 refine⟨λi hi=>⟨vs,hl,by rw[<-r.length];exact hi⟩,λi d hd=>?_⟩;obtain⟨v,h1,h2⟩:=r.get hd;refine⟨⟨vs,v,hl,h1⟩,λx H' ⟨e,hx⟩=>?_⟩;subst e;have:=hx vs hl;rw[h1]at this;cases this;exact⟨qe.refl _,h2⟩
theorem ke{K:aq}{a:Addr}{vs:List V}{ds:List D}{H:Hp}{S:Sh}(hl:SqT K H a vs)(r:qt g (hid H S) ds vs):Goes g (Itt K a) ds H S:=by
 refine⟨λi hi=>⟨vs,hl,by rw[<-r.length];exact hi⟩,λi d hd=>?_⟩;obtain⟨v,h1,h2⟩:=r.get hd;refine⟨⟨vs,v,hl,h1⟩,λx H' ⟨e,hx⟩=>?_⟩;subst e;have:=hx vs hl;rw[h1]at this;cases this;exact⟨qe.refl _,h2⟩
theorem lA:∀{xs:List D}{k i:Nat}{d:D},(cQ k xs)[i]? = some d->∃x,xs[i]? = some x/\d=.tup [.int ((k+i:Nat):Int),x]
 | [],_,_,_,h=>by simp[cQ]at h
 |x::r,k,0,d,h=>by simp[cQ]at h;exact⟨x,rfl,by rw[<-h];rfl⟩
 |x::r,k,i+1,d,h=>by
  simp only[cQ,List.getElem?_cons_succ]at h;obtain⟨y,h1,h2⟩:=lA h;exact⟨y,by simpa using h1,by rw[h2,show k+1+i=k+(i+1)by lia]⟩
theorem kn:∀(xs:List D) (k:Nat),(cQ k xs).length=xs.length
 | [],_=>rfl
 |x::r,k=>by simp[cQ,kn r]
theorem nF{K:aq}{a:Addr}{vs:List V}{ds:List D}{H:Hp}{S:Sh}(hl:SqL K H a vs)(r:qt g (hid H S) ds vs)(hS:Sub S H):Goes g (Ite K a) (cQ 0 ds) H S:=by
 refine⟨λi hi=>⟨vs,hl,by rw[<-r.length,<-kn ds 0];exact hi⟩,λi d hd=>?_⟩;obtain⟨y,h0,rfl⟩:=lA hd;obtain⟨v,h1,h2⟩:=r.get h0;refine⟨⟨vs,v,hl,h1⟩,λx H' ⟨p,z,hp,e1,e2,hx⟩=>?_⟩;subst e1 e2;have:=hx vs hl;rw[h1]at this;cases this;refine⟨zk hp,?_⟩;rw[Nat.zero_add];exact eT hS hp (.cons (.int _) (.cons h2 .nil))
theorem j6:∀{xs ys:List D}{i:Nat}{d:D},(zW xs ys)[i]? = some d->∃x y,xs[i]? = some x/\ys[i]? = some y/\d=.tup [x,y]
 | [],_,_,_,h=>by simp[zW]at h
 |_::_,[],_,_,h=>by simp[zW]at h
 |x::r,y::t,0,d,h=>by simp[zW]at h;exact⟨x,y,rfl,rfl,h.symm⟩
 |x::r,y::t,i+1,d,h=>by
  simp only[zW,List.getElem?_cons_succ]at h;obtain⟨x',y',h1,h2,h3⟩:=j6 h;exact⟨x',y',by simpa using h1,by simpa using h2,h3⟩
theorem jH:∀(xs ys:List D),(zW xs ys).length=min xs.length ys.length
 | [],_=>by simp[zW]
 |_::_,[]=>by simp[zW]
 |x::r,y::t=>by simp[zW,jH r t]
theorem gN{K:aq}{tup:Bool}{a b:Addr}{vs us:List V}{ds es:List D}{H:Hp}{S:Sh}(hl:Sq2 K tup H a vs)(hl':Sq2 K tup H b us)(r:qt g (hid H S) ds vs)(r':qt g (hid H S) es us)(hn:ds.length=es.length)(hS:Sub S H):Goes g (Itz K tup a b) (zW ds es) H S:=by
 refine⟨λi hi=>⟨vs,us,hl,hl',by rw[jH]at hi;rw[<-r.length];lia⟩,λi d hd=>?_⟩;obtain⟨x,y,h0,h0',rfl⟩:=j6 hd;obtain⟨v,h1,h2⟩:=r.get h0;obtain⟨u,h3,h4⟩:=r'.get h0';refine⟨⟨vs,us,v,u,hl,hl',h1,h3⟩,λx H' ⟨p,z,z',hp,e1,e2,hx,hx'⟩=>?_⟩;subst e1 e2;have q:=hx vs hl;rw[h1]at q;cases q;have q:=hx' us hl';rw[h3]at q;cases q;exact⟨zk hp,eT hS hp (.cons h2 (.cons h4 .nil))⟩
theorem gL{lo:Int}{n:Nat}{H:Hp}{S:Sh}:Goes g (Itr lo n) (zC lo n) H S:=by
 refine⟨λi hi=>by show n<=i;simpa[zC]using hi,λi d hd=>?_⟩;unfold zC at hd;rw[List.getElem?_map]at hd;cases q:(aV n)[i]? with
 |none=>rw[q]at hd;cases hd
 |some j=>
  rw[q]at hd;cases hd;have hi:=(List.getElem?_eq_some_iff.mp q)
  obtain⟨h1,h2⟩:=hi;simp at h1 h2;subst h2;exact⟨h1,λx H' ⟨e1,e2⟩=>by subst e1 e2;exact⟨qe.refl _,.int _⟩⟩
theorem Ai(O:XO w g c E X){tg:Expr}(ha:PE X a (tE w g c E ia)):PI X tg a (tIt w g c E (.seq ia)):=
 PI.imp (PI.or (Ab ha) (we ha)) λσ H R ⟨τ,S,se,k⟩=>by
  have k0:=k;simp only[evI]at k;cases q:evE w ia τ with
  |ex z=>exact .inl ⟨τ,S,se,by rw[q]at k ⊢;exact k⟩
  |no=>rw[q]at k;exact k.elim
  |ok dd=>
   cases dd with
   |lst ds=>
    refine .inl (zd se k λda va H1 e1 p1 k1=>?_);rw[q]at e1;cases e1;obtain⟨ad,vs,rfl,h1,r1⟩:=p1.rb.lst;rw[<-O.K]at h1;refine⟨ad,rfl,⟨vs,h1⟩,k1 _ H1 p1.same (λH2 S2 s1 s2 _=>nC (s1.seq h1) (r1.mono s2)) λho H2 S2 s2 _=>?_⟩;have he:esc ia=true:=by
     cases ia<;>first|rfl|(simp[owned]at ho)
    cases p1.st he with
    |lst h2 r2=>exact nC (by rw[O.K];exact(s2.trans zt).seq h2) (r2.mono s2)
   |tup ds=>
    refine .inr (zd se k λda va H1 e1 p1 k1=>?_);rw[q]at e1;cases e1;cases p1.rb.strong (by intro _ z;cases z)with
    |tup h2 r2=>
     refine⟨_,rfl,⟨_,by rw[O.K];exact zr zt h2⟩,k1 _ H1 p1.same (λH2 S2 s1 s2 _=>ke (by rw[O.K];exact zr (s2.trans zt) h2) (r2.mono s2)) λho H2 S2 s2 _=>ke (by rw[O.K];exact zr (s2.trans zt) h2) (r2.mono s2)⟩
   |_=>rw[q]at k;exact k.elim
theorem jl{j:Int}(h:zh j=true):-1000000<=j/\j<=1000000:=by simpa[zh]using h
theorem Aw(O:XO w g c E X){x:Str}{tg:Expr}(h:glob c x=some .rng)(ha:PE X a (tE w g c E ia))(hs:isStar a=false):PI X tg (.Call (.Name x p2) [a] [] pos) (tIt w g c E (.rng ia)):=by
 obtain⟨h1,rfl⟩:=O.gm h;refine PI.imp (pY (O.gl h) h1 (zL ha cY (qm hs)) (qm hs)) λσ H R ⟨τ,S,se,k⟩=>?_
 simp only[evI]at k;refine zd se k λda va H1 e1 p1 k1=>?_
 cases da with
 |int j=>
  simp only at k1;cases q:zh j with
  |true=>
   rw[q,if_pos rfl]at k1;obtain⟨z1,z2⟩:=jl q;exact⟨j,by rw[p1.rb.int],by lia,by lia,k1 _ H1 p1.same (λ_ _ _ _ _=>gL) λ_ _ _ _ _=>gL⟩
  |false=>rw[q]at k1;exact k1.elim
 |_=>exact k1.elim
theorem yj(O:XO w g c E X){x:Str}{tg:Expr}(h:glob c x=some .rng)(ha:PE X a (tE w g c E ia))(hb:PE X b (tE w g c E ib))(hs:isStar a=false)(hs':isStar b=false):PI X tg (.Call (.Name x p2) [a,b] [] pos) (tIt w g c E (.rng2 ia ib)):=by
 obtain⟨h1,rfl⟩:=O.gm h;refine PI.imp (uo (O.gl h) h1 (zL ha (zL hb cY (qm hs')) (qm hs)) (by rw[qm hs,qm hs'];rfl) (qm hs')) λσ H R ⟨τ,S,se,k⟩=>?_
 simp only[evI]at k;refine zd se k λda va H1 e1 p1 k1=>zd (se.up p1.same) k1 λdb vb H2 e2 p2 k2=>?_
 cases da with
 |int i=>
  cases db with
  |int j=>
   simp only at k2;cases q:zh i&&zh j with
   |true=>
    rw[q,if_pos rfl]at k2;simp only[aJ]at q;obtain⟨z1,z2⟩:=jl q.1;obtain⟨z3,z4⟩:=jl q.2;exact⟨i,j,by rw[p1.rb.int,p2.rb.int],⟨by lia,by lia,by lia,by lia⟩,k2 _ H2 (p1.same.trans p2.same) (λ_ _ _ _ _=>gL) λ_ _ _ _ _=>gL⟩
   |false=>rw[q]at k2;exact k2.elim
  |_=>exact k2.elim
 |_=>exact k2.elim
theorem so(O:XO w g c E X){x:Str}{es:List Expr}{ek:Nat}{epos:Pos}(h:glob c x=some .enum)(ha:PE X a (tE w g c E ia))(hs:isStar a=false):PI X (.Tuple es ek epos) (.Call (.Name x p2) [a] [] pos) (tIt w g c E (.enum ia)):=by
 obtain⟨h1,rfl⟩:=O.gm h;refine PI.imp (rk (O.gl h) h1 (by decide +kernel) (zL ha cY (qm hs)) (qm hs)) λσ H R ⟨τ,S,se,k⟩=>?_
 simp only[evI]at k;refine zd se k λda va H1 e1 p1 k1=>?_
 cases da with
 |lst ds=>
  obtain⟨ad,vs,rfl,h1,r1⟩:=p1.rb.lst;rw[<-O.K]at h1;refine⟨ad,rfl,⟨vs,h1⟩,k1 _ H1 p1.same (λH2 S2 s1 s2 s3=>nF (s1.seq h1) (r1.mono s2) s3) λho H2 S2 s2 s3=>?_⟩;have he:esc ia=true:=by
   cases ia<;>first|rfl|(simp[owned]at ho)
  cases p1.st he with
  |lst h2 r2=>exact nF (by rw[O.K];exact(s2.trans zt).seq h2) (r2.mono s2) s3
 |_=>exact k1.elim
theorem sM(O:XO w g c E X){x:Str}{es:List Expr}{ek:Nat}{epos:Pos}(h:glob c x=some .zip)(ha:PE X a (tE w g c E ia))(hb:PE X b (tE w g c E ib))(hs:isStar a=false)(hs':isStar b=false):PI X (.Tuple es ek epos) (.Call (.Name x p2) [a,b] [] pos) (tIt w g c E (.zip ia ib)):=by
 obtain⟨h1,rfl⟩:=O.gm h;refine PI.imp (An (O.gl h) h1 (by decide +kernel) (zL ha (zL hb cY (qm hs')) (qm hs)) (by rw[qm hs,qm hs'];rfl) (qm hs')) λσ H R ⟨τ,S,se,k⟩=>?_
 simp only[evI]at k;refine zd se k λda va H1 e1 p1 k1=>zd (se.up p1.same) k1 λdb vb H2 e2 p2 k2=>?_
 have hown:∀{i1 i2:EV.E},owned (.zip i1 i2)=false->esc i1=true/\esc i2=true:=λ{i1 i2} z=>by
  have a:∀{i:EV.E},esc i=false->∃k,i=.own k:=λ{i} h=>by cases i<;>first|exact⟨_,rfl⟩|cases h
  cases e1:esc i1 with
  |false=>obtain⟨k,rfl⟩:=a e1;cases z
  |true=>
   cases e2:esc i2 with
   |false=>obtain⟨k,rfl⟩:=a e2;cases i1<;>cases z
   |true=>exact⟨rfl,rfl⟩
 have s12:=p1.same.trans p2.same;cases da with
 |lst ds=>
  cases db with
  |lst es=>
   simp only at k2;by_cases hn:ds.length=es.length
   ·rw[if_pos hn]at k2;obtain⟨ad,vs,rfl,h1,r1⟩:=(p1.rb.mono p2.same).lst;obtain⟨bd,us,rfl,h2,r2⟩:=p2.rb.lst;rw[<-O.K]at h1 h2;refine⟨false,ad,bd,rfl,⟨vs,h1⟩,⟨us,h2⟩,k2 _ H2 s12 (λH3 S3 s1 s2 s3=>gN (tup:=false) (s1.seq h1) (s1.seq h2) (r1.mono s2) (r2.mono s2) hn s3) λho H3 S3 s2 s3=>?_⟩;obtain⟨o1,o2⟩:=hown ho;cases (p1.st o1).mono (qT p2.same)with
    |lst h3 r3=>
     cases p2.st o2 with
     |lst h4 r4=>exact gN (tup:=false) (by rw[O.K];exact(s2.trans zt).seq h3) (by rw[O.K];exact(s2.trans zt).seq h4) (r3.mono s2) (r4.mono s2) hn s3
   ·rw[if_neg hn]at k2;exact k2.elim
  |_=>exact k2.elim
 |tup ds=>
  cases db with
  |tup es=>
   simp only at k2;by_cases hn:ds.length=es.length
   ·rw[if_pos hn]at k2;cases (p1.rb.mono p2.same).strong (by intro _ z;cases z)with
    |tup h3 r3=>
     cases p2.rb.strong (by intro _ z;cases z)with
     |tup h4 r4=>
      refine⟨true,_,_,rfl,⟨_,by rw[O.K];exact zr zt h3⟩,⟨_,by rw[O.K];exact zr zt h4⟩,k2 _ H2 s12 (λH3 S3 s1 s2 s3=>?_) λho H3 S3 s2 s3=>?_⟩
      ·exact gN (tup:=true) (by rw[O.K];exact zr (s2.trans zt) h3) (by rw[O.K];exact zr (s2.trans zt) h4) (r3.mono s2) (r4.mono s2) hn s3
      ·exact gN (tup:=true) (by rw[O.K];exact zr (s2.trans zt) h3) (by rw[O.K];exact zr (s2.trans zt) h4) (r3.mono s2) (r4.mono s2) hn s3
   ·rw[if_neg hn]at k2;exact k2.elim
  |_=>exact k2.elim
 |_=>exact k2.elim
theorem vh(O:XO w g c E X){a:Expr}{f:Str}{ia:EV.E}{pos:Pos}(hb:attributeBase a f X.env (eval a X.env)=eval a X.env)(ha:PE X a (tE w g c E ia)):PE X (.Attribute a f pos) (tE w g c E (.fld ia f)):=by
 refine PE.imp (wz hb ha) λσ H Q ⟨τ,S,se,h⟩=>?_
 simp only[qX,zb,qY,qU,qV,qW,za,zc,qZ,qw,qD,qH,qB,qE,qu,qA,qC,qq,qx,qz,qR,qs,qF,qQ,qG,qr,qP,qJ,qI,qy,qM,qO,qN,qS,qL,qK]at h;refine zd se h λd v H1 _ p1 k1=>?_
 cases d with
 |exn k=>
  unfold fj at k1;dsimp only at k1;cases q:w.fld k.nm with
  |none=>rw[q]at k1;exact k1.elim
  |some fs=>
   rw[q]at k1;dsimp only at k1;split at k1
   ·rename_i hf
    cases q2:k.fs.lookup f with
    |none=>rw[q2]at k1;exact k1.elim
    |some i=>
     rw[q2]at k1;cases p1.rb.rep with
     | @exn _ x C dx z1 z2 z3 z4=>
      obtain⟨fI,y1,_,_,_⟩:=O.fl k.nm fs q C z1;rcases z3 with ⟨e1,e2⟩|⟨dd,rfl,e2⟩
      ·rw[e1]at q2;cases q2
      ·have lk:∀l:List (Str×Int),l.lookup f=some i->(l.map λy=>(y.1,V.int y.2)).lookup f=some (.int i):=by
        intro l
        induction l with
        |nil=>intro q;cases q
        |cons y r ih=>
         intro q;rw[aX]at q;rw[bt,aX];split at q
         ·cases q;rfl
         ·exact ih q
       exact⟨x,C,dd,fI,fs,_,i,rfl,z2,e2,by rw[O.K];exact y1,by simpa using hf,lk _ q2,(λe=>z4 (by rw[e])),k1 _ _ (a8.of p1.same (.int _) rfl)⟩
   ·exact k1.elim
 |_=>exact k1.elim
end
noncomputable def fA:List Nat->TGs
 | []=>nz
 |i::is=>mT (dI i) (fA is)
noncomputable def gT(K:aq):Tg->TG
 | .nm i=>dI i
 | .tp is=>mG K is.length (fA is)
section
variable{w:W}{g:Gc}{c:Cc}{E:XK}{X:Cx}
theorem dX{x:Str}{i:Nat}(h:cH c x=some i):loc c x=some i/\(c.nm.lookup x=some .local\/(c.nm.lookup x=some .cell/\(c.fnc=true\/c.oc.contains x=true))):=by
 unfold cH at h;split at h
 ·rename_i q;exact⟨h,.inl q⟩
 ·rename_i q
  split at h
  ·rename_i z;exact⟨h,.inr ⟨q,by simpa using z⟩⟩
  ·cases h
 ·cases h
theorem kj(O:XO w g c E X){x:Str}{i:Nat}{pos:Pos}(h:cH c x=some i):PG X (.Name x pos) (dI i):=by
 obtain⟨h1,h2⟩:=dX h;obtain⟨h3,_⟩:=dz h1;refine vV (by rw[O.N];exact O.nd) (by rw[O.N];exact h3) (by unfold L2.Loc;rw[O.nm];rcases h2 with z|z;exact .inl z;exact .inr z.1) ?_;rcases h2 with z|z
 ·exact .inr (by rw[O.nm];exact z)
 ·exact .inl (O.fn x z.2)
theorem lQ:∀{es:List Expr}{xs:List Str},eJ es=some xs->∃ps:List Pos,es=(xs.zip ps).map (λp=>Expr.Name p.1 p.2)/\ps.length=xs.length
 | [],xs,h=>by simp[eJ]at h;subst h;exact⟨[],rfl,rfl⟩
 |e::es,xs,h=>by
  cases e with
  |Name y p=>
   simp only[eJ,bF]at h;obtain⟨ys,h1,rfl⟩:=h;obtain⟨ps,h2,h3⟩:=lQ h1;exact⟨p::ps,by rw[h2];rfl,by simp[h3]⟩
  |_=>simp[eJ]at h
theorem kL(O:XO w g c E X):∀{xs:List Str}{ps:List Pos}{is:List Nat},ps.length=xs.length->xs.mapM (cH c)=some is ->
  PGs X ((xs.zip ps).map λp=>Expr.Name p.1 p.2) (fA is)/\(assignEach ((xs.zip ps).map λp=>Expr.Name p.1 p.2) X.env).length=is.length/\(assignEach ((xs.zip ps).map λp=>Expr.Name p.1 p.2) X.env).findIdx? (·.1)=none
 | [],ps,is,_,h=>by
  simp at h;subst h;exact⟨xa,rfl,rfl⟩
 |x::xs,[],_,h,_=>by simp at h
 |x::xs,p::ps,is,hl,h=>by
  simp only[List.mapM_cons,aB,az]at h;obtain⟨i,h1,js,h2,h3⟩:=h;cases h3;obtain⟨r1,r2,r3⟩:=kL O (xs:=xs) (ps:=ps) (by simpa using hl) h2;refine⟨uu (kj O h1) r1 rfl,?_,?_⟩
  ·show (assignEach ((xs.zip ps).map λp=>Expr.Name p.1 p.2) X.env).length+1=js.length+1;rw[r2]
  ·show List.findIdx? (·.1) ((false,_)::assignEach ((xs.zip ps).map λp=>Expr.Name p.1 p.2) X.env)=none;rw[List.findIdx?_cons];simp only[b9,if_false];rw[r3];rfl
theorem gW(O:XO w g c E X){e:Expr}{tg:Tg}(h:cTg c e=some tg):PG X e (gT X.K tg):=by
 cases e with
 |Name x p=>
  simp only[cTg]at h;split at h
  ·cases h
  ·simp only[bF]at h;obtain⟨i,h1,rfl⟩:=h;exact kj O h1
 |Tuple es k p=>
  simp only[cTg]at h;split at h
  ·rename_i hc
   simp only[aB,az]at h;obtain⟨xs,h1,h⟩:=h;split at h
   ·cases h
   ·simp only[az]at h;obtain⟨is,h2,h⟩:=h;split at h
    ·cases h;obtain⟨ps,rfl,hl⟩:=lQ h1;obtain⟨r1,r2,r3⟩:=kL O hl h2;exact uq (O.calm hc) r1 r2 r3
    ·cases h
  ·cases h
 |_=>simp[cTg]at h
noncomputable def fq(c:Cc):Tg->Prop
 | .nm i=>∀x,c.N[i]? = some x->c.own.contains x=false
 | .tp is=>∀i∈is,∀x,c.N[i]? = some x->c.own.contains x=false
theorem l_{α β:Type}{f:α->Option β}:∀{xs:List α}{ys:List β},xs.mapM f=some ys->∀y∈ys,∃x∈xs,f x=some y
 | [],ys,h,y,hy=>by simp at h;subst h;simp at hy
 |x::xs,ys,h,y,hy=>by
  simp only[List.mapM_cons,aB,az]at h;obtain⟨z,h1,zs,h2,h3⟩:=h;cases h3;rcases aG.mp hy with rfl|hy
  ·exact⟨x,aL,h1⟩
  ·obtain⟨x',h4,h5⟩:=l_ h2 y hy;exact⟨x',aI _ h4,h5⟩
theorem lu{e:Expr}{tg:Tg}(h:cTg c e=some tg):fq c tg:=by
 have one:∀{x:Str}{i:Nat},c.own.contains x=false->cH c x=some i->∀y,c.N[i]? = some y->c.own.contains y=false:=λ{x i} ho hl y hy=>by
  obtain⟨h3,_⟩:=dz (dX hl).1;rw[h3]at hy;cases hy;exact ho
 cases e with
 |Name x p=>
  simp only[cTg]at h;split at h
  ·cases h
  ·rename_i ho
   simp only[bF]at h;obtain⟨i,h1,rfl⟩:=h;exact one (by simpa using ho) h1
 |Tuple es k p=>
  simp only[cTg]at h;split at h
  ·simp only[aB,az]at h;obtain⟨xs,h1,h⟩:=h;split at h
   ·cases h
   ·rename_i ho
    simp only[az]at h;obtain⟨is,h2,h⟩:=h;split at h
    ·cases h;intro i hi;obtain⟨x,hx,hl⟩:=l_ h2 i hi;refine one ?_ hl;cases q:c.own.contains x with
     |false=>rfl
     |true=>exact absurd (List.any_eq_true.mpr ⟨x,hx,q⟩) ho
    ·cases h
  ·cases h
 |_=>simp[cTg]at h
section
variable{τ τ':Env}{σ:L2.St}{H:Hp}{S:Sh}
theorem SE.set{i:Nat}{d:D}{v:V}(se:SE g c τ σ H S)(r:Rep g (hid H S) d v):SE g c (τ.set i (some d)) (σ.set i (some v)) H S:=by
 refine⟨by simp[se.len],λj e h=>?_,se.sub⟩;by_cases hij:i=j
 ·subst hij;by_cases hi:i<τ.length
  ·simp[hi]at h;subst h;have hi':i<σ.length:=by rw[<-se.len];exact hi
   exact⟨v,by simp[hi'],.inl r,λ_ _ _=>r⟩
  ·rw[List.set_eq_of_length_le (by lia)]at h;rw[List.getElem?_eq_none (by lia)]at h;cases h
 ·rw[List.getElem?_set_ne hij]at h ⊢;exact se.val j e h
theorem SE.setAll{is:List Nat}:∀{ds:List D}{vs:List V}{τ:Env}{σ:L2.St}{Q:L2.St->Hp->Prop},SE g c τ σ H S->qt g (hid H S) ds vs->setAll is ds τ=.ok τ'->(∀σ',SE g c τ' σ' H S->Q σ' H)->fA is vs σ H Q:=by
 induction is with
 |nil=>
  intro ds vs τ σ Q se r h k;cases r with
  |nil=>cases (show R.ok τ=R.ok τ' from h);exact⟨rfl,k σ se⟩
  |cons _ _=>cases (show R.no=R.ok τ' from h)
 |cons i is ih=>
  intro ds vs τ σ Q se r h k;cases r with
  |nil=>cases (show R.no=R.ok τ' from h)
  |cons r rs=>exact⟨_,_,rfl,ih (se.set r) rs h k⟩
theorem rF(O:X.K=g.K){tg:Tg}{d:D}{v:V}{Q:L2.St->Hp->Prop}(se:SE g c τ σ H S)(r:Rep g (hid H S) d v)(h:store tg d τ=.ok τ')(k:∀σ',SE g c τ' σ' H S->Q σ' H):gT X.K tg v σ H Q:=by
 cases tg with
 |nm i=>
  simp only[store,R.ok.injEq]at h;subst h;exact k _ (se.set r)
 |tp is=>
  cases d with
  |tup ds=>
   simp only[store]at h;split at h
   ·rename_i hl
    cases r with
    |tup h1 r1=>exact⟨_,_,rfl,by rw[O];exact zr zt h1,by rw[<-r1.length];exact hl,se.setAll r1 h k⟩
   ·cases h
  |_=>simp[store]at h
end
end
abbrev cD(c:Cc)(sc:aN):Cc:={c with nm:=gX sc.names c.nm,N:=bM sc.names,fnc:=false,oc:=fv sc.names}
section
variable{w:W}{g:Gc}{c:Cc}{E:XK}{X:Cx}
theorem XO.comp(O:XO w g c E X){sc:aN}(hk:sc.kind=.function)(hnd:(bM sc.names).Nodup)(cl:List (Str×Addr))(C:Addr)(s₀:af)(H₀:Hp)(fp:List Addr):XO w g (cD c sc) E0 (zw X (bM sc.names) sc cl C s₀ H₀ fp) where
 K:=O.K
 nm:=by
  show (relabel sc X.env).names=gX sc.names c.nm;unfold relabel gX;simp only
  congr 1
  funext p;have h1:(X.env.scope.kind==ScopeKind.function)=true:=by rw[O.kind];rfl
  have h2:X.env.kindOf p.1=c.nm.lookup p.1:=by show X.env.scope.names.lookup p.1=_;rw[O.nm]
  obtain⟨n,k⟩:=p;simp only at h2;simp only[h1,h2,Bool.and_true]
 N:=rfl
 nd:=hnd
 calm:=O.calm
 units:=O.units
 dp:=O.dp
 fl:=O.fl
 fn:=λx z=>z.elim (λz=>by cases z) λz=>z
 kind:=hk
 pass:=iX rfl rfl
 gok:=O.gok
 fns:=O.fns
 sub:=O.sub
theorem uk{α:Type}{τ:Env}{σ:L2.St}{H:Hp}{S:Sh}{it:It}{f:List D->R α}{P:α->Prop}{R':L2.It->Hp->Prop}(se:SE g c τ σ H S)(h:tR g E H ((evI w it τ).bind f) P)
  (k:∀ds J H',evI w it τ=.ok ds->qe H H'->(∀H2 S2,qe H' H2->qe (hid H' S) (hid H2 S2)->Sub S2 H2->Goes g J ds H2 S2)->(owned it=false->∀H2 S2,qe (hid H' S) (hid H2 S2)->Sub S2 H2->Goes g J ds H2 S2)->tR g E H' (f ds) P->R' J H'):tIt w g c E it σ H R':=by
 refine⟨τ,S,se,?_⟩;cases q:evI w it τ with
 |ok d=>rw[q]at h;exact λJ H' s k1 k2=>k d J H' q s k1 k2 (tR.up h s)
 |ex x=>rw[q]at h;exact h
 |no=>rw[q]at h;exact h
theorem uU{α:Type}{r:R α}{x:Xc}:noEx r≠.ex x:=by cases r<;>intro h<;>cases h
theorem oR{α:Type}{r:R α}{a:α}(h:noEx r=.ok a):r=.ok a:=by cases r<;>first|exact h|cases h
theorem mU{body:D->Env->R (Env×List D)}(hb:∀d τ x,body d τ≠.ex x):∀{ds:List D}{τ:Env}{acc:List D}{x:Xc},zK body ds τ acc≠.ex x
 | [],_,_,_,h=>by cases h
 |d::r,τ,acc,x,h=>by
  simp only[zK]at h;cases q:body d τ with
  |ok p=>rw[q]at h;exact mU hb h
  |ex y=>exact hb _ _ _ q
  |no=>rw[q]at h;cases h
theorem SE.caps{sc:aN}{cap:List (Option Nat)}{τ:Env}{σ:L2.St}{H:Hp}{S:Sh}(O:XO w g c E X)(hc:jQ X (bM sc.names) cap sc)(se:SE g c τ σ H S):SE g (cD c sc) (cP cap τ) (L2.caps cap σ) H S:=by
 refine⟨by simp[cP,L2.caps],λi d h=>?_,se.sub⟩;unfold cP at h;rw[List.getElem?_map]at h;cases q:cap[i]? with
 |none=>rw[q]at h;cases h
 |some o=>
  cases o with
  |none=>rw[q]at h;cases h
  |some j=>
   rw[q]at h;simp only[Option.map_some,Option.bind_some,bN]at h;cases q2:τ[j]? with
   |none=>rw[q2]at h;cases h
   |some z=>
    rw[q2]at h;cases z with
    |none=>cases h
    |some d'=>
     have:d'=d:=by simpa using h
     subst this;obtain⟨v,h1,h2,h3⟩:=se.val j d' q2;refine⟨v,?_,h2,λx hx ho=>?_⟩
     ·unfold L2.caps;rw[List.getElem?_map,q];simp[h1]
     ·obtain⟨y,e1,e2,_⟩:=hc.2 i j q;have hx':(bM sc.names)[i]? = some x:=hx;rw[e1]at hx';cases hx';exact h3 _ (by rw[<-O.N];exact e2) ho
theorem fO{H:Hp}{S:Sh}{p:Addr}{o:HO}(h:S.h p=true):hid (upd H p o) S=hid H S:=by
 funext b;unfold hid;by_cases hb:b=p
 ·subst hb;rw[if_pos h,if_pos h]
 ·rw[qg hb]
theorem SE.grow{c:Cc}{τ:Env}{σ:L2.St}{H:Hp}{S:Sh}{p:Addr}{o:HO}(se:SE g c τ σ H S)(h:S.h p=true)(ho:S.o p=false):SE g c τ σ (upd H p o) S:=by
 refine⟨se.len,λi d e=>?_,λa ha n=>?_⟩
 ·obtain⟨v,h1,h2,h3⟩:=se.val i d e;refine⟨v,h1,?_,λx hx hy=>by rw[fO h];exact h3 x hx hy⟩;rcases h2 with h2|⟨a,vs,ds,z1,z2,z3,z4,z5⟩
  ·exact .inl (by rw[fO h];exact h2)
  ·refine .inr ⟨a,vs,ds,z1,z2,z3,?_,by rw[fO h];exact z5⟩;rw[qg (λz=>by rw[z,ho]at z1;cases z1)];exact z4
 ·by_cases hb:a=p
  ·subst hb;rw[zp]at n;cases n
  ·rw[qg hb]at n;exact se.sub a ha n
theorem SE.hide{c:Cc}{τ:Env}{σ:L2.St}{H:Hp}{S:Sh}{p:Addr}{vs:List V}(se:SE g c τ σ H S)(hp:H p=none):SE g c τ σ (upd H p (.lst vs)) (bZ S p):=by
 refine⟨se.len,λi d e=>?_,λa ha n=>?_⟩
 ·obtain⟨v,h1,h2,h3⟩:=se.val i d e;refine⟨v,h1,?_,λx hx hy=>(h3 x hx hy).mono (gG hp)⟩;rcases h2 with h2|⟨a,vs,ds,z1,z2,z3,z4,z5⟩
  ·exact .inl (h2.mono (gG hp))
  ·exact .inr ⟨a,vs,ds,z1,z2,z3,zk hp _ _ z4,z5.mono (gG hp)⟩
 ·by_cases hb:a=p
  ·subst hb;rw[zp]at n;cases n
  ·rw[qg hb]at n;refine se.sub a ?_ n;rcases ha with ha|ha
   ·refine .inl ?_;have ha:(S.h a||a==p)=true:=ha
    simpa[hb]using ha
   ·exact .inr ha
theorem ka(O:XO w g c E X){sc:aN}{cap:List (Option Nat)}{iit:It}{itg:Tg}{tt:T}{ielt:EV.E}(hS:cN X (bM sc.names) cap sc)(he:esc ielt=true){σ:L2.St}{H:Hp}{Q:VK}(hq:tE w g c E (.comp iit cap itg tt ielt) σ H Q) :
  jF cap (tIt w g c E iit) (gT X.K itg) (tT w g (cD c sc) E0 tt) (λacc=>fZ acc (tE w g (cD c sc) E0 ielt)) σ H Q:=by
 obtain⟨τ,S,se,k⟩:=hq;simp only[qX,zb,qY,qU,qV,qW,za,zc,qZ,qw,qD,qH,qB,qE,qu,qA,qC,qq,qx,qz,qR,qs,qF,qQ,qG,qr,qP,qJ,qI,qy,qM,qO,qN,qS,qL,qK]at k;refine uk se k λds J H1 e1 s1 kW _ k1 acc hacc=>?_
 by_cases hz:SZ<ds.length
 ·rw[if_pos hz]at k1;exact k1.elim
 rw[if_neg hz]at k1;generalize hbody:(λx σ=>noEx ((store itg x σ).bind λσ'=>(evT w tt σ').bind λr=>if r=true then (evE w ielt σ').bind λd=>R.ok (σ',[d])else R.ok (σ',[])))=body at k1;have bex:∀d τ x,body d τ≠.ex x:=λd τ x=>by rw[<-hbody];exact uU
 cases hl:zK body ds (cP cap τ) []with
 |ex z=>exact absurd hl (mU bex)
 |no=>rw[hl]at k1;exact k1.elim
 |ok out=>
  rw[hl]at k1;simp only[R.bind_ok]at k1;have k1:∀v H',a8 g c (.comp iit cap itg tt ielt) S H (.lst out) v H'->Q v H':=k1;have sub1:=se.sub.same s1;have hoacc:S.o acc=false:=sub1.freeO hacc;have hhacc:(bZ S acc).h acc=true:=by show (S.h acc||acc==acc)=true;simp
  -- what holds between two turns
  refine⟨λi m σ' H'=>m=ds.length-i/\i<=ds.length/\∃τ' o,zK body (ds.drop i) τ' o=.ok out/\SE g (cD c sc) τ' σ' H' (bZ S acc)/\o.length<=i/\qe H1 H'/\∃vs,H' acc=some (.lst vs)/\qt g (hid H' (bZ S acc)) o vs,
   ⟨ds.length,rfl,Nat.zero_le _,cP cap τ,[],hl,(se.up s1).caps O hS.cap |>.hide hacc,aF _,zk hacc,[],zp,.nil⟩,?_⟩
  rintro i m σ' H' ⟨rfl,hi',τ',o,hlo,se',hol,s1',vs,hv,hr⟩;have keep:qe (hid H1 S) (hid H' (bZ S acc)):=λb u hb=>by
   obtain⟨z1,z2⟩:=bA.mp hb;refine bA.mpr ⟨?_,s1' _ _ z2⟩;show (S.h b||b==acc)=false;rw[z1]
   simpa using λz:b=acc=>by rw[z,hacc]at z2;cases z2
  obtain⟨g1,g2⟩:=kW H' (bZ S acc) s1' keep se'.sub;by_cases hlt:i<ds.length
  ·have hd:ds[i]? = some ds[i]:=List.getElem?_eq_getElem hlt;obtain⟨go1,go2⟩:=g2 i ds[i] hd;refine .inr ⟨go1,λσ'' H''=>∃τ' o,zK body (ds.drop (i+1)) τ' o=.ok out/\SE g (cD c sc) τ' σ'' H'' (bZ S acc)/\o.length<=i+1/\qe H1 H''/\∃vs,H'' acc=some (.lst vs)/\qt g (hid H'' (bZ S acc)) o vs,
    λσ'' H'' z=>⟨ds.length-(i+1),by lia,rfl,hlt,z⟩,λx H2 hy=>?_⟩
   obtain⟨s2,rx⟩:=go2 x H2 hy;rw[List.drop_eq_getElem_cons hlt]at hlo;simp only[zK]at hlo;cases q:body ds[i] τ' with
   |ex z=>exact absurd q (bex _ _ _)
   |no=>rw[q]at hlo;cases hlo
   |ok p=>
    rw[q]at hlo;simp only[R.bind_ok]at hlo;rw[<-hbody]at q;have q:=oR q;cases q1:store itg ds[i] τ' with
    |ex z=>rw[q1]at q;cases q
    |no=>rw[q1]at q;cases q
    |ok τ1=>
     rw[q1]at q;simp only[R.bind_ok]at q;refine rF O.K (se'.up s2) rx q1 λσ1 se1=>?_
     cases q2:evT w tt τ1 with
     |ex z=>rw[q2]at q;cases q
     |no=>rw[q2]at q;cases q
     |ok r=>
      rw[q2]at q;simp only[R.bind_ok]at q;refine⟨τ1,bZ S acc,se1,?_⟩;rw[q2];intro H3 s3;have hv3:=s3 _ _ (s2 _ _ hv);have s13:=s1'.trans (s2.trans s3);cases r with
      |false=>
       simp only[b9,if_false,R.ok.injEq]at q;subst q;rw[if_neg bS];exact⟨τ1,o++[],hlo,se1.up s3,by simp;lia,s13,vs,hv3,by rw[List.append_nil];exact hr.mono (qT (s2.trans s3))⟩
      |true=>
       simp only[if_true]at q;rw[if_pos rfl];cases q3:evE w ielt τ1 with
       |ex z=>rw[q3]at q;cases q
       |no=>rw[q3]at q;cases q
       |ok dd=>
        rw[q3]at q;simp only[R.bind_ok,R.ok.injEq]at q;subst q;refine⟨τ1,bZ S acc,se1.up s3,?_⟩;rw[q3];intro v H4 p4;have hv4:=p4.same _ _ hv3;have hr4:=hr.mono (qT ((s2.trans s3).trans p4.same));have hz':vs.length<sizeLine:=by
         rw[<-hr.length,a0];have:ds.length<=SZ:=Nat.le_of_not_lt hz;unfold SZ at this;lia
        refine⟨vs,hv4,hz',τ1,o++[dd],hlo,(se1.up (s3.trans p4.same)).grow hhacc hoacc,by simp;lia,λb u hb=>?_,vs++[v],zp,?_⟩
        ·rw[qg (λz=>by rw[z,hacc]at hb;cases hb)];exact p4.same _ _ (s13 _ _ hb)
        ·rw[fO hhacc];exact hr4.append (.cons (p4.st he) .nil)
  ·have e:i=ds.length:=by lia
   subst e;refine .inl ⟨g1 ds.length (aF _),?_⟩;rw[List.drop_length]at hlo;simp only[zK,R.ok.injEq]at hlo;subst hlo;have rep:Rep g (hid H' S) (.lst o) (.ref acc):=.lst (SqL.of (bA.mpr ⟨sub1.free hacc,hv⟩)) (hr.mono lp);exact k1 _ _ (a8.new (s1.trans s1') rep ⟨acc,vs,o,rfl,rfl,s1.free hacc,hv,hr⟩)
theorem Ah(O:XO w g c E X)(hcalm:X.calm=true){sc:aN}{cap:List (Option Nat)}{tgt it elt:Expr}{ifs:List Expr}{pos:Pos}{iit:It}{itg:Tg}{tt:T}{ielt:EV.E}(hS:cN X (bM sc.names) cap sc)(hnd:(bM sc.names).Nodup)
  (hi:PI X tgt it (tIt w g c E iit)) (hb:∀cl C s₀ H₀ fp,PG (zw X (bM sc.names) sc cl C s₀ H₀ fp) tgt (gT X.K itg)/\PTs (zw X (bM sc.names) sc cl C s₀ H₀ fp) ifs (tT w g (cD c sc) E0 tt)/\PE (zw X (bM sc.names) sc cl C s₀ H₀ fp) elt (tE w g (cD c sc) E0 ielt))
  (he:esc ielt=true) (hs:zm it=true):PE X (.ListComp elt [⟨tgt,it,ifs,0⟩] sc pos) (tE w g c E (.comp iit cap itg tt ielt)):=by
 exact PE.imp (xO (tb:=λacc=>fZ acc (tE w g (cD c sc) E0 ielt)) hcalm hS hi (λcl C s₀ H₀ fp=>⟨(hb cl C s₀ H₀ fp).1,(hb cl C s₀ H₀ fp).2.1,λacc=>kE rfl (hb cl C s₀ H₀ fp).2.2⟩) (by simp) (λx=>by cases it<;>first|rfl|(simp[zm]at hs))) λσ H Q q=>ka O hS he q
end
section
variable{prog:av}{w:au}{A:aw}{E:ae->af->Prop}{s:af}
end
section
variable{X:Cx}
end
section
variable{w:W}{g:Gc}{c:Cc}{E:XK}{X:Cx}{a b:Expr}{ia ib:EV.E}{pos p2 p3 pos3:Pos}
theorem kY(O:XO w g c E X)(hc:X.calm=true){x y:Str}{n:String}{bb:Option B1}{e:Expr}{es:List Expr}{it:It}{t:TA}(hT:glob c x=some (.ty n bb))(h:glob c y=some .rng)(ha:PA X (e::es) t)(hs:∀z∈e::es,isStar z=false)
  (hn:n = "tuple"\/n = "list")
  (k:∀σ H (Q:List V->Hp->Prop) τ S (P:List D->Prop),SE g c τ σ H S->tR g E H (evI w it τ) P->(∀lo hi vs H',qe H H'->(vs=[.int hi]/\lo=0\/vs=[.int lo,.int hi])->zh lo=true->zh hi=true->P (zC lo (hi-lo).toNat)->Q vs H')->t σ H Q) :
  PE X (.Call (.Name x p2) [.Call (.Name y p3) (e::es) [] pos3] [] pos) (tE w g c E (if n = "tuple" then .rtup it else .rlst it)):=λpins s σ H Q I ⟨τ,S,se,kk⟩=>by
 rcases hn with rfl|rfl
 ·simp only[if_true,qX,zb,qY,qU,qV,qW,za,zc,qZ,qw,qD,qH,qB,qE,qu,qA,qC,qq,qx,qz,qR,qs,qF,qQ,qG,qr,qP,qJ,qI,qy,qM,qO,qN,qS,qL,qK]at kk;exact aP kk
 ·rw[if_neg (by decide)]at kk;simp only[qX,zb,qY,qU,qV,qW,za,zc,qZ,qw,qD,qH,qB,qE,qu,qA,qC,qq,qx,qz,qR,qs,qF,qQ,qG,qr,qP,qJ,qI,qy,qM,qO,qN,qS,qL,qK]at kk;exact aP kk
theorem tZ(O:XO w g c E X)(hc:X.calm=true){x y:Str}{bb:Option B1}{d:Expr}{id:EV.E}(hT:glob c x=some (.ty "tuple" bb))(h:glob c y=some .rng)(ha:PE X a (tE w g c E ia))(hb:PE X b (tE w g c E ib))(hd:PE X d (tE w g c E id))(hs:isStar a=false)(hs':isStar b=false)(hs'':isStar d=false) :
  PE X (.Call (.Name x p2) [.Call (.Name y p3) [a,b,d] [] pos3] [] pos) (tE w g c E (.rtup (.rng3 ia ib id))):=λpins s σ H Q I ⟨τ,S,se,kk⟩=>by
 simp only[qX,zb,qY,qU,qV,qW,za,zc,qZ,qw,qD,qH,qB,qE,qu,qA,qC,qq,qx,qz,qR,qs,qF,qQ,qG,qr,qP,qJ,qI,qy,qM,qO,qN,qS,qL,qK]at kk;exact aP kk
theorem Ar(ha:PE X a (tE w g c E ia))(hs:isStar a=false):PA X [a] (fi (tE w g c E ia) gS):=zL ha cY (qm hs)
theorem x5:∀σ H (Q:List V->Hp->Prop) τ S (P:List D->Prop),SE g c τ σ H S->tR g E H (evI w (.rng ia) τ) P->(∀lo hi vs H',qe H H'->(vs=[.int hi]/\lo=0\/vs=[.int lo,.int hi])->zh lo=true->zh hi=true->P (zC lo (hi-lo).toNat)->Q vs H')->fi (tE w g c E ia) gS σ H Q:=by
 intro σ H Q τ S P se q k;simp only[evI]at q;refine zd se q λda va H1 e1 p1 k1=>?_
 cases da with
 |int j=>
  simp only at k1;cases z:zh j with
  |true=>rw[z,if_pos rfl]at k1;exact k 0 j _ H1 p1.same (.inl ⟨by rw[p1.rb.int],rfl⟩) (by decide) z (by rw[Int.sub_zero];exact k1)
  |false=>rw[z]at k1;exact k1.elim
 |_=>exact k1.elim
theorem vN:∀σ H (Q:List V->Hp->Prop) τ S (P:List D->Prop),SE g c τ σ H S->tR g E H (evI w (.rng2 ia ib) τ) P->(∀lo hi vs H',qe H H'->(vs=[.int hi]/\lo=0\/vs=[.int lo,.int hi])->zh lo=true->zh hi=true->P (zC lo (hi-lo).toNat)->Q vs H')->fi (tE w g c E ia) (fi (tE w g c E ib) gS) σ H Q:=by
 intro σ H Q τ S P se q k;simp only[evI]at q;refine zd se q λda va H1 e1 p1 k1=>zd (se.up p1.same) k1 λdb vb H2 e2 p2 k2=>?_
 cases da with
 |int i=>
  cases db with
  |int j=>
   simp only at k2;cases z:zh i&&zh j with
   |true=>
    rw[z,if_pos rfl]at k2;simp only[aJ]at z;exact k i j _ H2 (p1.same.trans p2.same) (.inr (by rw[p1.rb.int,p2.rb.int])) z.1 z.2 k2
   |false=>rw[z]at k2;exact k2.elim
  |_=>exact k2.elim
 |_=>exact k2.elim
end
structure Snd(w:W)(g:Gc)(n:Nat):Prop where
 e:∀{c:Cc}{E:XK}{X:Cx} (O:XO w g c E X) {x:Expr}{ir:EV.E},cE n c x=some ir->PE X x (tE w g c E ir)
 bo:∀{c:Cc}{E:XK}{X:Cx} (O:XO w g c E X) {op:PySem.BoolOp}{vs:List Expr}{pos:Pos}{ir:EV.E},cBo n c op vs=some ir->PE X (.BoolOp op vs pos) (tE w g c E ir)/\esc ir=true
 o:∀{c:Cc}{E:XK}{X:Cx} (O:XO w g c E X) {x:Option Expr}{ir:OE},cO n c x=some ir->PO X x (tOe w g c E ir)
 es:∀{c:Cc}{E:XK}{X:Cx} (O:XO w g c E X) {x:List Expr}{ir:Es},cEs n c x=some ir->PA X x (tA w g c E ir)
 i:∀{c:Cc}{E:XK}{X:Cx} (O:XO w g c E X) {tg x:Expr}{ir:It},cI n c x=some ir->eY ir tg=true->PI X tg x (tIt w g c E ir)
 t:∀{c:Cc}{E:XK}{X:Cx} (O:XO w g c E X) {x:Expr}{ir:T},cT n c x=some ir->PT X x (tT w g c E ir)
 ts:∀{c:Cc}{E:XK}{X:Cx} (O:XO w g c E X) {op:PySem.BoolOp}{vs:List Expr}{pos:Pos}{ir:T},cTs n c op vs=some ir->PW X (.BoolOp op vs pos) (tT w g c E ir)
 ifs:∀{c:Cc}{E:XK}{X:Cx} (O:XO w g c E X) {x:List Expr}{ir:T},dZ n c x=some ir->PTs X x (tT w g c E ir)
section
variable{w:W}{g:Gc}{n:Nat}
theorem Snd.ifs_succ(ih:Snd w g n){c:Cc}{E:XK}{X:Cx}(O:XO w g c E X){x:List Expr}{ir:T}(h:dZ (n+1) c x=some ir):PTs X x (tT w g c E ir):=by
 match x with
 | []=>
  simp only[dZ,bN]at h;subst h;intro pins s σ H Q I ⟨τ,S,se,q⟩;exact wC pins s σ H Q I (q H (qe.refl _))
 | [t]=>simp only[dZ]at h;exact sS (ih.t O h)
 |_::_::_=>simp[dZ]at h
theorem Snd.bo_succ(ih:Snd w g n){c:Cc}{E:XK}{X:Cx}(O:XO w g c E X){op:PySem.BoolOp}{vs:List Expr}{pos:Pos}{ir:EV.E}(h:cBo (n+1) c op vs=some ir):PE X (.BoolOp op vs pos) (tE w g c E ir)/\esc ir=true:=by
 match vs with
 | []=>simp[cBo]at h
 | [a]=>
  simp only[cBo,aB,az]at h;obtain⟨ia,h1,h⟩:=h;split at h
  ·rename_i he
   cases h;exact⟨sV (ih.e O h1),he⟩
  ·cases h
 |a::b::r=>
  simp only[cBo,aB,az]at h;obtain⟨ia,h1,ir',h2,h⟩:=h;obtain⟨r1,r2⟩:=ih.bo O (pos:=pos) h2;cases op with
  |And=>cases h;exact⟨vQ (ih.e O h1) r1 r2,rfl⟩
  |Or=>cases h;exact⟨tB (ih.e O h1) r1 r2,rfl⟩
theorem Snd.o_succ(ih:Snd w g n){c:Cc}{E:XK}{X:Cx}(O:XO w g c E X){x:Option Expr}{ir:OE}(h:cO (n+1) c x=some ir):PO X x (tOe w g c E ir):=by
 cases x with
 |none=>simp only[cO,bN]at h;subst h;exact xP
 |some e=>
  simp only[cO,bF]at h;obtain⟨ie,h1,rfl⟩:=h;exact oX (ih.e O h1)
theorem Snd.es_succ(ih:Snd w g n){c:Cc}{E:XK}{X:Cx}(O:XO w g c E X){x:List Expr}{ir:Es}(h:cEs (n+1) c x=some ir):PA X x (tA w g c E ir):=by
 match x with
 | []=>simp only[cEs,bN]at h;subst h;exact tD
 |e::r=>
  have hs:=dA h e aL;simp only[cEs,hs,b9,if_false,aB,az]at h;obtain⟨ie,h1,ir',h2,h⟩:=h;cases h;exact o5 (ih.e O h1) (ih.es O h2) hs
theorem Snd.ts_succ(ih:Snd w g n){c:Cc}{E:XK}{X:Cx}(O:XO w g c E X){op:PySem.BoolOp}{vs:List Expr}{pos:Pos}{ir:T}(h:cTs (n+1) c op vs=some ir):PW X (.BoolOp op vs pos) (tT w g c E ir):=by
 match vs with
 | []=>simp[cTs]at h
 | [a]=>
  simp only[cTs]at h;cases op with
  |And=>exact rA (ih.t O h)
  |Or=>exact xc (ih.t O h)
 |a::b::r=>
  simp only[cTs,aB,az]at h;obtain⟨ia,h1,ir',h2,h⟩:=h;cases op with
  |And=>cases h;exact sP (ih.t O h1) (ih.ts O h2)
  |Or=>cases h;exact AO (ih.t O h1) (ih.ts O h2)
theorem Snd.t_succ(ih:Snd w g n){c:Cc}{E:XK}{X:Cx}(O:XO w g c E X){x:Expr}{ir:T}(h:cT (n+1) c x=some ir):PT X x (tT w g c E ir):=by
 unfold cT at h;split at h
 ·simp only[bF]at h;obtain⟨ia,h1,rfl⟩:=h;exact vI (ih.t O h1)
 ·exact(ih.ts O h).pt
 ·cases h
 ·split at h
  ·simp only[aB,az]at h;obtain⟨ia,h1,ib,h2,h⟩:=h;split at h
   ·rename_i hs;cases h;exact sQ O (ih.e O h1) (ih.e O h2) hs
   ·cases h
  ·simp only[aB,az]at h;obtain⟨ia,h1,ib,h2,id',h3,h⟩:=h;split at h
   ·rename_i hs
    simp only[aJ]at hs;cases h;exact rY O (ih.e O h1) (ih.e O h2) (ih.e O h3) hs.2
   ·cases h
  ·simp only[aB,az]at h;obtain⟨ia,h1,ib,h2,id',h3,if',h4,h⟩:=h;split at h
   ·rename_i hs
    simp only[aJ]at hs;cases h;exact yx O (ih.e O h1) (ih.e O h2) (ih.e O h3) (ih.e O h4) hs.2
   ·cases h
  ·cases h
 ·rename_i n1 n2 n3 n4
  simp only[bF]at h;obtain⟨ia,h1,rfl⟩:=h;refine xU O (ih.e O h1) λwhole=>?_
  cases x with
  |UnaryOp op a p=>cases op<;>first|rfl|exact(n1 _ _ rfl).elim
  |BoolOp op vs p=>exact(n2 _ _ _ rfl).elim
  |IfExp a b d p=>exact(n3 _ _ _ _ rfl).elim
  |Compare a ops bs p=>exact(n4 _ _ _ _ rfl).elim
  |_=>rfl
theorem Snd.i_succ(ih:Snd w g n){c:Cc}{E:XK}{X:Cx}(O:XO w g c E X){tg x:Expr}{ir:It}(h:cI (n+1) c x=some ir)(ht:eY ir tg=true):PI X tg x (tIt w g c E ir):=by
 have sq:∀{x:Expr}{ir:It},(cE n c x).map It.seq=some ir->PI X tg x (tIt w g c E ir):=λ{x ir} h=>by
  simp only[bF]at h;obtain⟨ia,h1,rfl⟩:=h;exact Ai O (ih.e O h1)
 have tup:isTup tg=true->∃es k p,tg=.Tuple es k p:=λh=>by cases tg<;>first|exact⟨_,_,_,rfl⟩|(simp[isTup]at h)
 unfold cI at h;split at h
 ·rename_i f p as q
  split at h
  ·exact sq h
  ·split at h
   ·rename_i hg
    split at h
    ·rename_i a
     split at h
     ·cases h
     ·rename_i hs
      simp only[bF]at h;obtain⟨ia,h1,rfl⟩:=h;exact Aw O hg (ih.e O h1) (by simpa using hs)
    ·rename_i a b
     split at h
     ·cases h
     ·rename_i hs
      have hs:isStar a=false/\isStar b=false:=by simpa using hs
      simp only[aB,az]at h;obtain⟨ia,h1,ib,h2,h⟩:=h;cases h;exact yj O hg (ih.e O h1) (ih.e O h2) hs.1 hs.2
    ·cases h
   ·rename_i hg
    split at h
    ·rename_i a
     split at h
     ·cases h
     ·rename_i hs
      simp only[bF]at h;obtain⟨ia,h1,rfl⟩:=h;obtain⟨es,k,p',rfl⟩:=tup ht;exact so O hg (ih.e O h1) (by simpa using hs)
    ·cases h
   ·rename_i hg
    split at h
    ·rename_i a b
     split at h
     ·cases h
     ·rename_i hs
      have hs:isStar a=false/\isStar b=false:=by simpa using hs
      simp only[aB,az]at h;obtain⟨ia,h1,ib,h2,h⟩:=h;cases h;obtain⟨es,k,p',rfl⟩:=tup ht;exact sM O hg (ih.e O h1) (ih.e O h2) hs.1 hs.2
    ·cases h
   ·exact sq h
 ·exact sq h
end
section
variable{w:W}{g:Gc}{c:Cc}{E:XK}{X:Cx}{a:Expr}{ia:EV.E}{pos p2 p3 pos3:Pos}
end
section
variable{w:W}{g:Gc}{n:Nat}
theorem Snd.call_name(ih:Snd w g n){c:Cc}{E:XK}{X:Cx}(O:XO w g c E X){f:Str}{p pos:Pos}{as:List Expr}{ir:EV.E}(h:cE (n+1) c (.Call (.Name f p) as [] pos)=some ir):PE X (.Call (.Name f p) as [] pos) (tE w g c E ir):=by
 unfold cE at h;dsimp only at h;split at h
 ·cases h
 ·split at h
  ·rename_i fr hg
   simp only[aB,az]at h;obtain⟨ies,h1,h⟩:=h;split at h
   ·rename_i hc
    simp only[aJ,bH]at hc;cases h
    match as with
    | []=>simp at hc
    |e::es=>exact ym O hg (ih.es O h1) hc.1 (dA h1)
   ·split at h
    ·rename_i hc
     simp only[bH]at hc;cases h
     match as with
     | []=>simp at hc
     |e::es=>exact uN O hg (ih.es O h1) (dA h1)
    ·cases h
  ·rename_i b hg
   split at h
   ·rename_i a hs;cases hs
   simp only[aB,az]at h;obtain⟨ies,h1,h⟩:=h;split at h
   ·rename_i hc
    simp only[aJ,bH,cx,beq_iff_eq]at hc;cases h
    match as with
    | []=>simp at hc
    |e::es=>exact AI O hg (by rcases hc.2 with (z|z)|z;exact .inl (O.calm z);exact .inr (.inl z);exact .inr (.inr z)) (ih.es O h1) (dA h1)
   ·cases h
  ·rename_i t b hg
   have plain:∀{ies:Es},cEs n c as=some ies->as.isEmpty=false->PE X (.Call (.Name f p) as [] pos) (tE w g c E (.bi b ies)):=λ{ies} h1 he=>by
    match as with
    | []=>simp at he
    |e::es=>exact Av O hg (ih.es O h1) (dA h1)
   split at h
   ·rename_i y p' as' q
    split at h
    ·rename_i hr
     simp only[aJ,beq_iff_eq]at hr;split at h
     ·rename_i hc
      simp only[aJ,cx,beq_iff_eq]at hc;split at h
      ·rename_i a
       split at h
       ·cases h
       ·rename_i hs
        have hs:isStar a=false:=by simpa using hs
        simp only[aB,az]at h;obtain⟨ia,h1,h⟩:=h;cases h;exact kY O (O.calm hc.1) hg hr.2 (Ar (ih.e O h1) hs) (by intro z hz;simp at hz;rw[hz];exact hs) hc.2 x5
      ·rename_i a d
       split at h
       ·cases h
       ·rename_i hs
        have hs:isStar a=false/\isStar d=false:=by simpa using hs
        simp only[aB,az]at h;obtain⟨ia,h1,ib,h2,h⟩:=h;cases h;exact kY O (O.calm hc.1) hg hr.2 (zL (ih.e O h1) (zL (ih.e O h2) cY (qm hs.2)) (qm hs.1)) (by intro z hz;simp at hz;rcases hz with rfl|rfl;exact hs.1;exact hs.2) hc.2 vN
      ·rename_i a d k
       split at h
       ·cases h
       ·rename_i hs
        have hs:(isStar a=false/\isStar d=false)/\isStar k=false:=by simpa[and_assoc]using hs
        simp only[aB,az]at h;obtain⟨ia,h1,ib,h2,id,h3,h⟩:=h;split at h
        ·rename_i ht
         have ht:=eq_of_beq ht;subst ht;cases h;exact tZ O (O.calm hc.1) hg hr.2 (ih.e O h1) (ih.e O h2) (ih.e O h3) hs.1.1 hs.1.2 hs.2
        ·cases h
      ·cases h
     ·cases h
    ·simp only[aB,az]at h;obtain⟨ies,h1,h⟩:=h;cases h;exact plain h1 rfl
   ·simp only[aB,az]at h;obtain⟨ies,h1,h⟩:=h;split at h
    ·rename_i hc
     cases h;exact plain h1 (by simpa using hc)
    ·cases h
  ·rename_i hg
   split at h
   ·rename_i a k
    split at h
    ·cases h
    ·rename_i hs
     simp only[aB,az]at h;obtain⟨ia,h1,cl,h2,h⟩:=h;cases h;exact uw O hg (ih.e O h1) h2 (by simpa using hs)
   ·cases h
  ·cases h
theorem hZ:∀{n:Nat}{c:Cc}{l:List Expr}{es:Es},cEs n c l=some es->l.length<=n
 | 0,_,_,_,h=>by simp[cEs]at h
 |n+1,_,[],_,_=>by simp
 |n+1,c,x::l,es,h=>by
  have hs:=dA h x aL;simp only[cEs,hs,b9,if_false,aB,az]at h;obtain⟨_,_,r,hr,_⟩:=h;have:=hZ hr
  simpa using this
theorem j_{c:Cc}{elt:Expr}{gs:List bV}{sc:aN}{p:Pos}{ir:EV.E}(h:cE (n+1) c (.ListComp elt gs sc p)=some ir) :
  ∃tgt it ifs iit itg it' ie,gs=[⟨tgt,it,ifs,0⟩]/\(c.calm=true/\zm it=true)/\(fM (λx=>c.nm.lookup x) c.N (bM sc.names) (eM c sc.names) sc=true/\(bM sc.names).Nodup)/\cI n c it=some iit/\cTg (cD c sc) tgt=some itg/\dZ n (cD c sc) ifs=some it'/\cE n (cD c sc) elt=some ie/\(esc ie=true/\eY iit tgt=true)/\ir=.comp iit (eM c sc.names) itg it' ie:=by
 unfold cE at h;dsimp only at h;split at h
 ·rename_i tgt it ifs asy
  split at h
  ·cases h
  ·rename_i hs
   have hs:(asy=0/\c.calm=true)/\zm it=true:=by simpa using hs
   obtain⟨⟨rfl,hs1⟩,hs2⟩:=hs;split at h
   ·cases h
   ·rename_i hk
    have hk:fM (λx=>c.nm.lookup x) c.N (bM sc.names) (eM c sc.names) sc=true/\(bM sc.names).Nodup:=by simpa using hk
    simp only[aB,az]at h;obtain⟨iit,h1,itg,h2,it',h3,ie,h4,h⟩:=h;split at h
    ·rename_i he
     simp only[aJ]at he;cases h;exact⟨tgt,it,ifs,iit,itg,it',ie,rfl,⟨hs1,hs2⟩,hk,h1,h2,h3,h4,he,rfl⟩
    ·cases h
 ·cases h
theorem Snd.e_succ(ih:Snd w g n)(hn:n<=100000){c:Cc}{E:XK}{X:Cx}(O:XO w g c E X){x:Expr}{ir:EV.E}(h:cE (n+1) c x=some ir):PE X x (tE w g c E ir):=by
 have h0:=h;unfold cE at h;split at h
 ·-- Name
  rename_i y p
  split at h
  ·rename_i i hl
   have:=gE (w:=w) (E:=E) (pos:=p) O hl;cases ho:c.own.contains y with
   |true=>rw[ho]at h this;cases h;exact this
   |false=>rw[ho]at h this;cases h;exact this
  ·split at h
   ·rename_i hg;cases h;exact wX O hg
   ·rename_i fr hg;cases h;exact xf O hg
   ·cases h
 ·split at h
  ·cases h;exact gU pE λ_=>.int _
  ·cases h;exact gU lE λ_=>.bl _
  ·cases h;exact gU uT λ_=>.non
  ·cases h;exact gU vt λ_=>.str _
  ·cases h
 ·simp only[aB,az]at h;obtain⟨o,ho,ia,h1,ib,h2,h⟩:=h;cases h;exact t_ O ho (ih.e O h1) (ih.e O h2)
 ·rename_i op a p
  simp only[aB,az]at h;obtain⟨ia,h1,h⟩:=h;cases op with
  |USub=>cases h;exact ph (ih.e O h1)
  |Invert=>cases h;exact pQ (ih.e O h1)
  |Not=>cases h;exact xR (ih.e O h1)
  |UAdd=>cases h
 ·exact(ih.bo O h).1
 ·-- a field
  split at h
  ·split at h
   ·rename_i y p _ i hl
    cases ho:c.own.contains y with
    |true=>rw[ho]at h;cases h
    |false=>
     rw[ho]at h;cases h;have:=gE (w:=w) (E:=E) (pos:=p) O hl;rw[ho]at this;exact vh O rfl this
   ·cases h
  ·cases h
 ·split at h
  ·simp only[aB,az]at h;obtain⟨ia,h1,ib,h2,h⟩:=h;split at h
   ·rename_i hs;cases h;exact y9 O (ih.e O h1) (ih.e O h2) hs
   ·cases h
  ·simp only[aB,az]at h;obtain⟨ia,h1,ib,h2,id',h3,h⟩:=h;split at h
   ·rename_i hs
    simp only[aJ]at hs;cases h;exact oI O (ih.e O h1) (ih.e O h2) (ih.e O h3) hs.2
   ·cases h
  ·simp only[aB,az]at h;obtain⟨ia,h1,ib,h2,id',h3,if',h4,h⟩:=h;split at h
   ·rename_i hs
    simp only[aJ]at hs;cases h;exact As O (ih.e O h1) (ih.e O h2) (ih.e O h3) (ih.e O h4) hs.2
   ·cases h
  ·cases h
 ·split at h
  ·rename_i ks vs _ hk
   simp only[aJ,List.isEmpty_iff]at hk;obtain⟨rfl,rfl⟩:=hk;cases h;exact xw
  ·cases h
 ·simp only[aB,az]at h;obtain⟨it,h1,ia,h2,ib,h3,h⟩:=h;split at h
  ·rename_i hs
   simp only[aJ]at hs;cases h;exact xB (ih.t O h1) (ih.e O h2) (ih.e O h3) hs.1 hs.2
  ·cases h
 ·simp only[aB,az]at h;obtain⟨ies,h1,h⟩:=h;split at h
  ·rename_i hs;cases h
   exact ud (ih.es O h1) hs λτ ds e=>by rw[h8 h1 e];exact aZ (hZ h1) hn
  ·cases h
 ·simp only[aB,az]at h;obtain⟨ies,h1,h⟩:=h;split at h
  ·rename_i hs;cases h
   exact wW (ih.es O h1) hs λτ ds e=>by rw[h8 h1 e];exact aZ (hZ h1) hn
  ·cases h
 ·split at h
  ·rename_i lo hi st' sp
   split at h
   ·cases h
   ·simp only[aB,az]at h;obtain⟨ia,h1,il,h2,ih',h3,h⟩:=h;cases h;exact ot O (ih.e O h1) (ih.o O h2) (ih.o O h3)
  ·split at h
   ·cases h
   ·rename_i hs
    simp only[aB,az]at h;obtain⟨ia,h1,ib,h2,h⟩:=h;cases h;exact wF O (ih.e O h1) (ih.e O h2) (by simpa using hs)
 ·-- ListComp
  rename_i elt gs sc p
  obtain⟨tgt,it,ifs,iit,itg,it',ie,rfl,hs,hk,h1,h2,h3,h4,he,rfl⟩:=j_ h0;have hS:cN X (bM sc.names) (eM c sc.names) sc:=cN.of (by
   have e1:(λx=>c.nm.lookup x)=X.env.kindOf:=by funext x;show _=X.env.scope.names.lookup x;rw[O.nm]
   rw[<-e1,O.N];exact hk.1)
  refine Ah O (O.calm hs.1) hS hk.2 (ih.i O h1 he.2) (λcl C s₀ H₀ fp=>?_) he.1 hs.2;have OY:=O.comp hS.kind hk.2 cl C s₀ H₀ fp;exact⟨gW OY h2,ih.ifs OY h3,ih.e OY h4⟩
 ·split at h
  ·split at h
   ·exact ih.call_name O h0
   ·split at h
    ·rename_i hm
     cases h;exact vS O hm
    ·cases h
   ·cases h
  ·cases h
 ·cases h
theorem wy:Snd w g 0:=⟨λ_ _ _ h=>(by cases h),λ_ _ _ _ _ h=>by simp[cBo]at h,λ_ _ _ h=>by simp[cO]at h,λ_ _ _ h=>by simp[cEs]at h,λ_ _ _ _ h=>by simp[cI]at h,λ_ _ _ h=>by simp[cT]at h,λ_ _ _ _ _ h=>by simp[cTs]at h,λ_ _ _ h=>by simp[dZ]at h⟩
theorem snd:∀n,n<=100000->Snd w g n
 | 0,_=>wy
 |n+1,h=>
  have ih:=snd n (Nat.le_of_succ_le h)
  ⟨λO _ _ q=>ih.e_succ (Nat.le_of_succ_le h) O q,λO _ _ _ _ q=>ih.bo_succ O q,λO _ _ q=>ih.o_succ O q,λO _ _ q=>ih.es_succ O q,λO _ _ _ q t=>ih.i_succ O q t,λO _ _ q=>ih.t_succ O q,λO _ _ _ _ q=>ih.ts_succ O q,λO _ _ q=>ih.ifs_succ O q⟩
end
noncomputable def zu(c:Cc)(i:Nat):Prop:=∃x,c.N[i]? = some x/\c.own.contains x=true
structure SS(g:Gc)(c:Cc)(H0:Hp)(B:Sh)(τ:Env)(σ:L2.St)(H:Hp)(S:Sh):Prop where
 se:SE g c τ σ H S
 lenN:τ.length=c.N.length
 same:qe H0 H
 sub0:Sub B H0
 hd:∀a,S.h a=(B.h a||S.o a)
 new:∀a,S.o a=true->H0 a=none
 own:∀i d,zu c i->τ[i]? = some (some d)->∃a vs ds,σ[i]? = some (some (.ref a))/\S.o a=true/\d=.lst ds/\H a=some (.lst vs)/\qt g (hid H S) ds vs
 inj:∀i j d e a,zu c i->zu c j->τ[i]? = some (some d)->τ[j]? = some (some e)->σ[i]? = some (some (.ref a))->σ[j]? = some (some (.ref a))->i=j
 frz:c.frz=true->(∀i,zu c i->σ[i]? = B.z[i]?)/\qe B.y H
section
variable{g:Gc}{c:Cc}{H0:Hp}{B:Sh}{τ:Env}{σ:L2.St}{H H':Hp}{S:Sh}
theorem SS.up(s:SS g c H0 B τ σ H S)(e:qe H H'):SS g c H0 B τ σ H' S:=
 ⟨s.se.up e,s.lenN,s.same.trans e,s.sub0,s.hd,s.new,λi d hi h=>let ⟨a,vs,ds,h1,h2,h3,h4,h5⟩:=s.own i d hi h;⟨a,vs,ds,h1,h2,h3,e _ _ h4,h5.mono (qT e)⟩,s.inj,λz=>⟨(s.frz z).1,(s.frz z).2.trans e⟩⟩
theorem SS.set{i:Nat}{d:D}{v:V}(s:SS g c H0 B τ σ H S)(hi:¬ zu c i)(r:Rep g (hid H S) d v):SS g c H0 B (τ.set i (some d)) (σ.set i (some v)) H S:=by
 refine⟨s.se.set r,by simp[s.lenN],s.same,s.sub0,s.hd,s.new,λj e hj h=>?_,λj k e f a hj hk h1 h2 h3 h4=>?_,λz=>⟨λj hj=>?_,(s.frz z).2⟩⟩
 ·have hij:i≠j:=λz=>hi (z▸hj)
  rw[List.getElem?_set_ne hij]at h ⊢;exact s.own j e hj h
 ·have hij:i≠j:=λz=>hi (z▸hj)
  have hik:i≠k:=λz=>hi (z▸hk)
  rw[List.getElem?_set_ne hij]at h1 h3;rw[List.getElem?_set_ne hik]at h2 h4;exact s.inj j k e f a hj hk h1 h2 h3 h4
 ·rw[List.getElem?_set_ne (λz:i=j=>hi (z▸hj))];exact(s.frz z).1 j hj
theorem SS.setAll{is:List Nat}:∀{ds:List D}{vs:List V}{τ τ':Env}{σ:L2.St}{Q:L2.St->Hp->Prop},SS g c H0 B τ σ H S->(∀i∈is,¬ zu c i)->qt g (hid H S) ds vs->EV.setAll is ds τ=.ok τ'->(∀σ',SS g c H0 B τ' σ' H S->Q σ' H)->fA is vs σ H Q:=by
 induction is with
 |nil=>
  intro ds vs τ τ' σ Q se _ r h k;cases r with
  |nil=>cases (show R.ok τ=R.ok τ' from h);exact⟨rfl,k σ se⟩
  |cons _ _=>cases (show R.no=R.ok τ' from h)
 |cons i is ih=>
  intro ds vs τ τ' σ Q se ho r h k;cases r with
  |nil=>cases (show R.no=R.ok τ' from h)
  |cons r rs=>exact⟨_,_,rfl,ih (se.set (ho i aL) r) (λj hj=>ho j (aI _ hj)) rs h k⟩
theorem rp{tg:Tg}(h:fq c tg):match tg with | .nm i=>¬ zu c i | .tp is=>∀i∈is,¬ zu c i:=by
 cases tg with
 |nm i=>rintro⟨x,h1,h2⟩;rw[h x h1]at h2;cases h2
 |tp is=>rintro i hi ⟨x,h1,h2⟩;rw[h i hi x h1]at h2;cases h2
theorem SS.store{X:Cx}(O:X.K=g.K){tg:Tg}{d:D}{v:V}{τ':Env}{Q:L2.St->Hp->Prop}(s:SS g c H0 B τ σ H S)(hf:fq c tg)(r:Rep g (hid H S) d v)(h:EV.store tg d τ=.ok τ')(k:∀σ',SS g c H0 B τ' σ' H S->Q σ' H):gT X.K tg v σ H Q:=by
 have ho:=rp hf;cases tg with
 |nm i=>
  simp only[EV.store,R.ok.injEq]at h;subst h;exact k _ (s.set ho r)
 |tp is=>
  cases d with
  |tup ds=>
   simp only[EV.store]at h;split at h
   ·rename_i hl
    cases r with
    |tup h1 r1=>exact⟨_,_,rfl,by rw[O];exact zr zt h1,by rw[<-r1.length];exact hl,s.setAll ho r1 h k⟩
   ·cases h
  |_=>simp[EV.store]at h
noncomputable def mR(S:Sh)(a:Addr):Sh:=⟨λb=>S.o b||b==a,λb=>S.h b||b==a,S.z,S.y⟩
theorem SS.setOwn{i:Nat}{d:D}{v:V}(s:SS g c H0 B τ σ H S)(hz:c.frz=false)(hi:zu c i)(hlt:i<τ.length)(e:qe H H')(f:Fr g H S H' d v):∃S',SS g c H0 B (τ.set i (some d)) (σ.set i (some v)) H' S'/\qe (hid H S) (hid H' S'):=by
 obtain⟨a,vs,ds,rfl,rfl,h1,h2,h3⟩:=f;have up:qe (hid H S) (hid H' (mR S a)):=λb o hb=>by
  obtain⟨z1,z2⟩:=bA.mp hb;refine bA.mpr ⟨?_,e _ _ z2⟩;show (S.h b||b==a)=false;rw[z1]
  simpa using λz:b=a=>by rw[z,h1]at z2;cases z2
 have hlt':i<σ.length:=by rw[<-s.se.len];exact hlt
 refine⟨mR S a,⟨⟨by simp[s.se.len],λj e' hj=>?_,λb hb n=>?_⟩,by simp[s.lenN],s.same.trans e,s.sub0,λb=>?_,λb hb=>?_,λj e' hj h=>?_,λj k e1 e2 b hj hk q1 q2 q3 q4=>?_,λz=>by rw[hz]at z;cases z⟩,up⟩
 ·by_cases hij:i=j
  ·subst hij;simp[hlt]at hj;subst hj;refine⟨.ref a,by simp[hlt'],.inr ⟨a,vs,ds,by show (S.o a||a==a)=true;simp,rfl,rfl,h2,h3⟩,λx hx hn=>?_⟩;obtain⟨y,hy1,hy2⟩:=hi;rw[hy1]at hx;cases hx;rw[hn]at hy2;cases hy2
  ·rw[List.getElem?_set_ne hij]at hj ⊢;obtain⟨u,z1,z2,z3⟩:=s.se.val j e' hj;refine⟨u,z1,?_,λx hx hn=>(z3 x hx hn).mono up⟩;rcases z2 with z2|⟨a',vs',ds',y1,y2,y3,y4,y5⟩
   ·exact .inl (z2.mono up)
   ·exact .inr ⟨a',vs',ds',by show (S.o a'||a'==a)=true;rw[y1];rfl,y2,y3,e _ _ y4,y5.mono up⟩
 ·have hb:(S.h b||b==a)=true\/(S.o b||b==a)=true:=hb;by_cases hba:b=a
  ·rw[hba,h2]at n;cases n
  ·have:S.h b=true\/S.o b=true:=by
    rcases hb with z|z
    ·exact .inl (by simpa[hba]using z)
    ·exact .inr (by simpa[hba]using z)
   exact(s.se.sub.same e) b this n
 ·show (S.h b||b==a)=(B.h b||(S.o b||b==a))
  rw[s.hd b,Bool.or_assoc]
 ·have hb:(S.o b||b==a)=true:=hb;by_cases hba:b=a
  ·rw[hba];exact s.same.free h1
  ·exact s.new b (by simpa[hba]using hb)
 ·by_cases hij:i=j
  ·subst hij;simp[hlt]at h;subst h;exact⟨a,vs,ds,by simp[hlt'],by show (S.o a||a==a)=true;simp,rfl,h2,h3⟩
  ·rw[List.getElem?_set_ne hij]at h ⊢;obtain⟨a',vs',ds',y1,y2,y3,y4,y5⟩:=s.own j e' hj h;exact⟨a',vs',ds',y1,by show (S.o a'||a'==a)=true;rw[y2];rfl,y3,e _ _ y4,y5.mono up⟩
 ·have other:∀j e1 b,i≠j->zu c j->τ[j]? = some (some e1)->σ[j]? = some (some (.ref b))->b≠a:=λj e1 b hij hj q1 q3 z=>by
   obtain⟨a',vs',ds',y1,y2,y3,y4,y5⟩:=s.own j e1 hj q1;rw[q3]at y1;cases y1;rw[z,h1]at y4;cases y4
  by_cases hij:i=j
  ·by_cases hik:i=k
   ·rw[<-hij,<-hik]
   ·subst hij;rw[List.getElem?_set_ne hik]at q2 q4;have q3':b=a:=by
     have:(σ.set i (some (.ref a)))[i]? = some (some (.ref a)):=by simp[hlt']
     rw[this]at q3;cases q3;rfl
    exact absurd q3' (other k e2 b hik hk q2 q4)
  ·by_cases hik:i=k
   ·subst hik;rw[List.getElem?_set_ne hij]at q1 q3;have q4':b=a:=by
     have:(σ.set i (some (.ref a)))[i]? = some (some (.ref a)):=by simp[hlt']
     rw[this]at q4;cases q4;rfl
    exact absurd q4' (other j e1 b hij hj q1 q3)
   ·rw[List.getElem?_set_ne hij]at q1 q3;rw[List.getElem?_set_ne hik]at q2 q4;exact s.inj j k e1 e2 b hj hk q1 q2 q3 q4
theorem SS.change{i:Nat}{a:Addr}{d0:D}{vs:List V}{ds:List D}(s:SS g c H0 B τ σ H S)(hz:c.frz=false)(hi:zu c i)(h0:τ[i]? = some (some d0))(ha:σ[i]? = some (some (.ref a)))(r:qt g (hid H S) ds vs):SS g c H0 B (τ.set i (some (.lst ds))) σ (upd H a (.lst vs)) S/\qe (hid H S) (hid (upd H a (.lst vs)) S):=by
 have hlt:i<τ.length:=(List.getElem?_eq_some_iff.mp h0).1;obtain⟨a',vs0,ds0,y1,y2,y3,y4,y5⟩:=s.own i d0 hi h0;rw[ha]at y1;cases y1;have hh:S.h a=true:=by rw[s.hd,y2,Bool.or_true]
 have he:hid (upd H a (.lst vs)) S=hid H S:=fO hh;have other:∀j e,i≠j->zu c j->τ[j]? = some (some e)->∀b,σ[j]? = some (some (.ref b))->b≠a:=λj e hij hj h b hb z=>by
  subst z;exact hij (s.inj i j d0 e b hi hj h0 h ha hb)
 refine⟨⟨⟨by simp[s.se.len],λj e hj=>?_,λb hb n=>?_⟩,by simp[s.lenN],λb o hb=>?_,s.sub0,s.hd,s.new,λj e hj h=>?_,λj k e1 e2 b hj hk q1 q2 q3 q4=>?_,λz=>by rw[hz]at z;cases z⟩,by rw[he];exact qe.refl _⟩
 ·by_cases hij:i=j
  ·subst hij;simp[hlt]at hj;subst hj;refine⟨.ref a,ha,.inr ⟨a,vs,ds,y2,rfl,rfl,zp,by rw[he];exact r⟩,λx hx hn=>?_⟩;obtain⟨y,hy1,hy2⟩:=hi;rw[hy1]at hx;cases hx;rw[hn]at hy2;cases hy2
  ·rw[List.getElem?_set_ne hij]at hj;obtain⟨u,z1,z2,z3⟩:=s.se.val j e hj;by_cases ho:zu c j
   ·obtain⟨b,ws,es,w1,w2,w3,w4,w5⟩:=s.own j e ho hj;rw[z1]at w1;cases w1;refine⟨_,z1,.inr ⟨b,ws,es,w2,rfl,w3,by rw[qg (other j e hij ho hj b z1)];exact w4,by rw[he];exact w5⟩,λx hx hn=>?_⟩;obtain⟨y,hy1,hy2⟩:=ho;rw[hy1]at hx;cases hx;rw[hn]at hy2;cases hy2
   ·have st:Rep g (hid H S) e u:=by
     cases q:c.N[j]? with
     |some x=>
      refine z3 x q ?_;cases q2:c.own.contains x with
      |false=>rfl
      |true=>exact absurd ⟨x,q,q2⟩ ho
     |none=>
      have h1:=(List.getElem?_eq_some_iff.mp hj).1;have h2:=List.getElem?_eq_none_iff.mp q;have h3:=s.lenN;lia
    exact⟨u,z1,.inl (by rw[he];exact st),λ_ _ _=>by rw[he];exact st⟩
 ·by_cases hba:b=a
  ·subst hba;rw[zp]at n;cases n
  ·rw[qg hba]at n;exact s.se.sub b hb n
 ·by_cases hba:b=a
  ·subst hba;rw[s.new b y2]at hb;cases hb
  ·rw[qg hba];exact s.same _ _ hb
 ·by_cases hij:i=j
  ·subst hij;simp[hlt]at h;subst h;exact⟨a,vs,ds,ha,y2,rfl,zp,by rw[he];exact r⟩
  ·rw[List.getElem?_set_ne hij]at h;obtain⟨b,ws,es,w1,w2,w3,w4,w5⟩:=s.own j e hj h;exact⟨b,ws,es,w1,w2,w3,by rw[qg (other j e hij hj h b w1)];exact w4,by rw[he];exact w5⟩
 ·have f:∀k e,(τ.set i (some (.lst ds)))[k]? = some (some e)->∃e',τ[k]? = some (some e'):=λk e h=>by
   by_cases hik:i=k
   ·subst hik;exact⟨d0,h0⟩
   ·rw[List.getElem?_set_ne hik]at h;exact⟨e,h⟩
  obtain⟨e1',q1'⟩:=f j e1 q1;obtain⟨e2',q2'⟩:=f k e2 q2;exact s.inj j k e1' e2' b hj hk q1' q2' q3 q4
end
noncomputable def bK(g:Gc)(c:Cc)(E:XK)(fr:Bool)(H0:Hp)(B:Sh)(H:Hp)(S:Sh)(D:Ends):O->Prop
 | .nx τ'=>∀σ' H' S',SS g c H0 B τ' σ' H' S'->qe (hid H S) (hid H' S')->D.nx σ' H'
 | .bk τ'=>∀σ' H' S',SS g c H0 B τ' σ' H' S'->qe (hid H S) (hid H' S')->D.bk σ' H'
 | .ct τ'=>∀σ' H' S',SS g c H0 B τ' σ' H' S'->qe (hid H S) (hid H' S')->D.ct σ' H'
 | .rt d=>∀v H',qe H0 H'->Rep g (hid H' B) d v->(fr=true->Fr g H0 B H' d v)->D.rt v H'
 | .ex k=>∀H' C dx,qe H0 H'->g.clA k.nm=some C->dB H0 H' dx k.fs->E (.ref C) dx H'
 | .no=>False
section
variable(w:W)(g:Gc)(c:Cc)(E:XK)(fr:Bool)
noncomputable def tS(s:EV.S):TS:=λD σ H=>∃H0 B τ S,SS g c H0 B τ σ H S/\bK g c E fr H0 B H S D (evS w s τ)
noncomputable def tSs(s:Ss):TS:=λD σ H=>∃H0 B τ S,SS g c H0 B τ σ H S/\bK g c E fr H0 B H S D (qf w s τ)
end
structure XS(w:W)(g:Gc)(c:Cc)(E:XK)(X:Cx):Prop extends XO w g c E X where
 thr:c.thr=true->Throws X E
 exc:∀x C,c.G.lookup x=some .exc->g.clA x=some C->iM g.K C
 cat:∀k x,w.cat k x=true->∀C D,g.clA k=some C->g.clA x=some D->bG g.K (.ref C) (.ref D)=some true
 frm:X.ex=[]/\X.stack=X.env::X.outer/\X.env.frame=some X.env.locals
 gh:∀x k,c.GH.lookup x=some k->k≠.exc/\∀v,GM w g X.prog X.w X.mg X.base (X.A.mark v) false x k
section
variable{w:W}{g:Gc}{c:Cc}{E:XK}{fr:Bool}{X:Cx}{H0:Hp}{B:Sh}{τ:Env}{σ:L2.St}{H H':Hp}{S:Sh}{Ed:Ends}
theorem bK.up{o:O}{S':Sh}(h:bK g c E fr H0 B H S Ed o)(e:qe (hid H S) (hid H' S')):bK g c E fr H0 B H' S' Ed o:=by
 cases o with
 |nx t=>exact λσ' H2 S2 s e2=>h σ' H2 S2 s (e.trans e2)
 |bk t=>exact λσ' H2 S2 s e2=>h σ' H2 S2 s (e.trans e2)
 |ct t=>exact λσ' H2 S2 s e2=>h σ' H2 S2 s (e.trans e2)
 |rt d=>exact h
 |ex k=>exact h
 |no=>exact h
theorem s_e{e:EV.E}{f:D->O}{Q:VK}(ss:SS g c H0 B τ σ H S)(h:bK g c E fr H0 B H S Ed ((evE w e τ).out f))(k:∀d v H',evE w e τ=.ok d->a8 g c e S H d v H'->bK g c E fr H0 B H S Ed (f d)->Q v H'):tE w g c E e σ H Q:=by
 refine⟨τ,S,ss.se,?_⟩;cases q:evE w e τ with
 |ok d=>rw[q]at h;exact λv H' p=>k d v H' q p h
 |ex x=>rw[q]at h;exact λH' C dx s hc hx=>h H' C dx (ss.same.trans s) hc (hx.low ss.same)
 |no=>rw[q]at h;exact h
theorem s_t{t:T}{f:Bool->O}{Q:Bool->Hp->Prop}(ss:SS g c H0 B τ σ H S)(h:bK g c E fr H0 B H S Ed ((evT w t τ).out f))(k:∀b H',evT w t τ=.ok b->qe H H'->bK g c E fr H0 B H S Ed (f b)->Q b H'):tT w g c E t σ H Q:=by
 refine⟨τ,S,ss.se,?_⟩;cases q:evT w t τ with
 |ok d=>rw[q]at h;exact λH' p=>k d H' q p h
 |ex x=>rw[q]at h;exact λH' C dx s hc hx=>h H' C dx (ss.same.trans s) hc (hx.low ss.same)
 |no=>rw[q]at h;exact h
theorem s_a{es:Es}{f:List D->O}{Q:List V->Hp->Prop}(ss:SS g c H0 B τ σ H S)(h:bK g c E fr H0 B H S Ed ((zo w es τ).out f))(k:∀ds vs H',zo w es τ=.ok ds->qe H H'->dN g H' S ds vs->bK g c E fr H0 B H S Ed (f ds)->Q vs H'):tA w g c E es σ H Q:=by
 refine⟨τ,S,ss.se,?_⟩;cases q:zo w es τ with
 |ok d=>rw[q]at h;exact λvs H' p r _=>k d vs H' q p r h
 |ex x=>rw[q]at h;exact λH' C dx s hc hx=>h H' C dx (ss.same.trans s) hc (hx.low ss.same)
 |no=>rw[q]at h;exact h
theorem jJ(ss:SS g c H0 B τ σ H S){b:Addr}(h:S.h b=false):B.h b=false:=by
 have:=ss.hd b;rw[h]at this;cases q:B.h b with
 |false=>rfl
 |true=>rw[q]at this;cases this
theorem oK(ss:SS g c H0 B τ σ H S):qe (hid H' S) (hid H' B):=λb o h=>by
 obtain⟨z1,z2⟩:=bA.mp h;exact bA.mpr ⟨jJ ss z1,z2⟩
theorem nu:∀{is:List Nat}{ds:List EV.D}{τ:Env}{x:Xc},setAll is ds τ≠.ex x
 | [],[],_,_,h=>by cases h
 | [],_::_,_,_,h=>by cases h
 |_::_,[],_,_,h=>by cases h
 |i::is,d::ds,τ,x,h=>by simp only[setAll]at h;exact nu h
theorem xM{pos:Pos}:PS X (.Pass pos) (tS w g c E fr .pass):=PS.imp wu λD σ H ⟨H0,B,τ,S,ss,h⟩=>h σ H S ss (qe.refl _)
theorem wN{pos:Pos}:PS X (.Break pos) (tS w g c E fr .brk):=PS.imp xm λD σ H ⟨H0,B,τ,S,ss,h⟩=>h σ H S ss (qe.refl _)
theorem uO{pos:Pos}:PS X (.Continue pos) (tS w g c E fr .cnt):=PS.imp ux λD σ H ⟨H0,B,τ,S,ss,h⟩=>h σ H S ss (qe.refl _)
theorem gC{e:Expr}{t:Option Expr}{l:Nat}{env:PySem.Env}(h:dw e=false):swapsWith e t l env=pure false:=by
 cases e<;>first|rfl|(simp[dw]at h)
theorem sT{e:Expr}{ie:EV.E}{pos:Pos}(he:PE X e (tE w g c E ie))(hc:dw e=false):PS X (.Expr e pos) (tS w g c E fr (.exp ie)):=
 PS.imp (jR he (gC hc)) λD σ H ⟨H0,B,τ,S,ss,h⟩=>by
  simp only[b4,bY,cc,b7,zF,bX,b6,zV,cg,zH,zx,zU,zS,zR,zT,zQ,zP,zO,zI]at h;exact s_e ss h λd v H' _ p k=>k σ H' S (ss.up p.same) (qT p.same)
theorem yN{pos:Pos}(hf:fr=false):PS X (.Return none pos) (tS w g c E fr .retN):=PS.imp wU λD σ H ⟨H0,B,τ,S,ss,h⟩=>h _ _ ss.same .non (by rw[hf];intro z;cases z)
theorem iA(ss:SS g c H0 B τ σ H S){a:Addr}{vs:List V}{ds:List EV.D}(h1:H0 a=none)(h2:H' a=some (.lst vs))(h3:qt g (hid H' (bZ S a)) ds vs):Rep g (hid H' B) (.lst ds) (.ref a)/\Fr g H0 B H' (.lst ds) (.ref a):=by
 have up:qe (hid H' (bZ S a)) (hid H' (bZ B a)):=λb o hb=>by
  obtain⟨z1,z2⟩:=bA.mp hb;refine bA.mpr ⟨?_,z2⟩;have z1:(S.h b||b==a)=false:=z1;simp only[Bool.or_eq_false_iff]at z1;show (B.h b||b==a)=false;rw[jJ ss z1.1,z1.2];rfl
 exact⟨.lst (SqL.of (bA.mpr ⟨ss.sub0.free h1,h2⟩)) (h3.mono (up.trans lp)),⟨a,vs,ds,rfl,rfl,h1,h2,h3.mono up⟩⟩
theorem nP(ss:SS g c H0 B τ σ H S){a:Addr}{vs:List V}{ds:List EV.D}(y1:S.o a=true)(y3:qt g (hid H' S) ds vs):qt g (hid H' (bZ S a)) ds vs:=y3.mono λb o hb=>by
 have hh:S.h a=true:=by rw[ss.hd,y1,Bool.or_true]
 obtain⟨z1,z2⟩:=bA.mp hb;refine bA.mpr ⟨?_,z2⟩;show (S.h b||b==a)=false;rw[z1]
 simpa using λz:b=a=>by rw[z,hh]at z1;cases z1
theorem lx{e:Expr}{ie:EV.E}{pos:Pos}(he:PE X e (tE w g c E ie))(hf:fr=true->fresh c ie=true):PS X (.Return (some e) pos) (tS w g c E fr (.ret ie)):=
 PS.imp (mi he) λD σ H ⟨H0,B,τ,S,ss,h⟩=>by
  simp only[b4,bY,cc,b7,zF,bX,b6,zV,cg,zH,zx,zU,zS,zR,zT,zQ,zP,zO,zI]at h;refine s_e ss h λd v H' _ p k=>?_
  have k:∀v H',qe H0 H'->Rep g (hid H' B) d v->(fr=true->Fr g H0 B H' d v)->D.rt v H':=k;have s1:=ss.up p.same;by_cases hz:fr=true
  ·obtain⟨a,vs,ds,rfl,rfl,h1,h2,h3⟩:=p.fr (hf hz);obtain⟨r1,r2⟩:=iA (H':=H') ss (ss.same.free h1) h2 h3;exact k _ H' s1.same r1 λ_=>r2
  ·rcases p.rb with r|⟨a,vs,ds,y1,rfl,rfl,y2,y3⟩
   ·exact k v H' s1.same (r.mono (oK ss)) λz=>absurd z hz
   ·obtain⟨r1,r2⟩:=iA (H':=H') ss (ss.new a y1) y2 (nP ss y1 y3);exact k _ H' s1.same r1 λ_=>r2
theorem x8(O:XO w g c E X){x:Str}{i:Nat}{p pos:Pos}(h:loc c x=some i)(ho:c.own.contains x=true):PS X (.Return (some (.Name x p)) pos) (tS w g c E fr (.ret (.own i))):=by
 obtain⟨h1,h2,h3,h4⟩:=dz h;refine PS.imp (mi (gw (i:=i) (by rw[O.N];exact h1) (by unfold eQ;rw[O.nm];exact h2) h3 h4)) λD σ H ⟨H0,B,τ,S,ss,h⟩=>?_
 simp only[b4,bY,cc,b7,zF,bX,b6,zV,cg,zH,zx,zU,zS,zR,zT,zQ,zP,zO,zI,qX,zb,qY,qU,qV,qW,za,zc,qZ,qw,qD,qH,qB,qE,qu,qA,qC,qq,qx,qz,qR,qs,qF,qQ,qG,qr,qP,qJ,qI,qy,qM,qO,qN,qS,qL,qK,bW]at h;cases q:τ[i]? with
 |none=>rw[q]at h;exact h.elim
 |some o=>
  cases o with
  |none=>rw[q]at h;exact h.elim
  |some d=>
   rw[q]at h;obtain⟨a,vs,ds,z1,y1,rfl,y2,y3⟩:=ss.own i d ⟨x,h1,ho⟩ q;obtain⟨r1,r2⟩:=iA (H':=H) ss (ss.new a y1) y2 (nP ss y1 y3);exact⟨_,z1,h _ H ss.same r1 λ_=>r2⟩
theorem jq{e:Expr}{ie:EV.E}{i:Nat}{st:Stmt}{te:TE}(hp:PS X st (gn te (dI i)))(hr:∀σ H Q,tE w g c E ie σ H Q->te σ H Q)(hlt:i<c.N.length)(hk:(zu c i/\fresh c ie=true/\c.frz=false)\/(¬ zu c i/\esc ie=true)):PS X st (tS w g c E fr (.set (.nm i) ie)):=
 PS.imp hp λD σ H ⟨H0,B,τ,S,ss,h⟩=>by
  simp only[b4,bY,cc,b7,zF,bX,b6,zV,cg,zH,zx,zU,zS,zR,zT,zQ,zP,zO,zI,store]at h;refine hr σ H _ (s_e ss h λd v H' _ p k=>?_);have k:∀σ' H2 S2,SS g c H0 B (τ.set i (some d)) σ' H2 S2->qe (hid H S) (hid H2 S2)->D.nx σ' H2:=k;rcases hk with ⟨ho,hf,hfz⟩|⟨ho,he⟩
  ·obtain⟨S',s1,s2⟩:=ss.setOwn hfz ho (by rw[ss.lenN];exact hlt) p.same (p.fr hf);exact k _ _ S' s1 s2
  ·exact k _ _ S ((ss.up p.same).set ho (p.st he)) (qT p.same)
theorem tV(O:XO w g c E X){tg e:Expr}{itg:Tg}{ie:EV.E}{pos:Pos}(he:PE X e (tE w g c E ie))(hg:PG X tg (gT X.K itg))(hf:fq c itg)(hes:esc ie=true)(hs:swapsWithSole [tg] e pos.line X.env=pure false)(hw:swappedStores [tg] e X.env=pure none)(h1:(assignEach [tg] X.env).map (·.2)=[assign tg X.env]) :
  PS X (.Assign [tg] e pos) (tS w g c E fr (.set itg ie)):=
 PS.imp (kO he hg hs hw h1) λD σ H ⟨H0,B,τ,S,ss,h⟩=>by
  simp only[b4,bY,cc,b7,zF,bX,b6,zV,cg,zH,zx,zU,zS,zR,zT,zQ,zP,zO,zI]at h;refine s_e ss h λd v H' _ p k=>?_
  cases q:store itg d τ with
  |ok τ'=>
   rw[q]at k;exact(ss.up p.same).store O.K hf (p.st hes) q λσ' s1=>k σ' H' S s1 (qT p.same)
  |ex z=>cases itg<;>simp only[store]at q<;>first|cases q|(split at q<;>first|cases q|(split at q<;>first|(exact absurd q (nu))|cases q))
  |no=>rw[q]at k;exact k.elim
end
section
variable{w:W}{g:Gc}{c:Cc}{E:XK}{fr:Bool}{X:Cx}{H0:Hp}{B:Sh}{τ:Env}{σ:L2.St}{H H':Hp}{S:Sh}{Ed:Ends}
theorem nA{i:Nat}{d:EV.D}(h:bW τ i=.ok d):τ[i]? = some (some d):=by
 unfold bW at h;split at h
 ·rename_i q;cases h;exact q
 ·cases h
theorem rG(O:XO w g c E X)(hfz:c.frz=false){x:Str}{i:Nat}{a:Expr}{ia:EV.E}{p ap cp pos:Pos}(h:loc c x=some i)(ho:c.own.contains x=true)(ha:PE X a (tE w g c E ia))(hes:esc ia=true)(hs:isStar a=false)(hl:(ap.endLine==cp.line)=true) :
  PS X (.Expr (.Call (.Attribute (.Name x p) "append" ap) [a] [] cp) pos) (tS w g c E fr (.app i ia)):=by
 obtain⟨h1,h2,h3,h4⟩:=dz h;have hv:PE X (.Name x p) (fT i):=gw (i:=i) (by rw[O.N];exact h1) (by unfold eQ;rw[O.nm];exact h2) h3 h4;have hst:=qm (es:=[]) (env:=X.env) hs;have hb:=iN (X:=X) (apos:=ap) (cpos:=cp) PySem.F.plainAttrs_list PySem.F.slot_list_append PySem.F.type_list_append mj hv (zL ha cY hst) rfl (by rw[hst];rfl) hl hst rfl;refine PS.imp (jR hb rfl) λD σ H ⟨H0,B,τ,S,ss,k⟩=>?_
 simp only[b4,bY,cc,b7,zF,bX,b6,zV,cg,zH,zx,zU,zS,zR,zT,zQ,zP,zO,zI]at k;cases q:bW τ i with
 |ex z=>unfold bW at q;split at q<;>cases q
 |no=>rw[q]at k;exact k.elim
 |ok d0=>
  rw[q]at k;have q':=nA q;have hi:zu c i:=⟨x,h1,ho⟩
  obtain⟨ad,vs,ds,z1,y1,rfl,y2,y3⟩:=ss.own i d0 hi q';refine⟨_,z1,.inl ⟨rfl,vs,SqL.of y2⟩,s_e ss k λd v H1 _ p1 k1=>?_⟩;simp only at k1;by_cases hz:ds.length<SZ
  ·rw[if_pos hz]at k1;have s1:=ss.up p1.same;have y2':=p1.same _ _ y2;obtain⟨s2,s3⟩:=s1.change (vs:=vs++[v]) (ds:=ds++[d]) hfz hi q' z1 ((y3.mono (qT p1.same)).append (.cons (p1.st hes) .nil));exact⟨ad,vs,v,rfl,rfl,y2',by rw[<-y3.length,a0];unfold SZ at hz;lia,k1 _ _ S s2 ((qT p1.same).trans s3)⟩
  ·rw[if_neg hz]at k1;exact k1.elim
theorem sJ(O:XO w g c E X)(hfz:c.frz=false){x:Str}{i:Nat}{k e:Expr}{ik ie:EV.E}{p sp pos:Pos}(h:loc c x=some i)(ho:c.own.contains x=true)(hk:PE X k (tE w g c E ik))(he:PE X e (tE w g c E ie))(hes:esc ie=true)(hsl:isSlice k=false)(hc:dw e=false) :
  PS X (.Assign [.Subscript (.Name x p) k sp] e pos) (tS w g c E fr (.seti i ik ie)):=by
 obtain⟨h1,h2,h3,h4⟩:=dz h;have hv:PE X (.Name x p) (fT i):=gw (i:=i) (by rw[O.N];exact h1) (by unfold eQ;rw[O.nm];exact h2) h3 h4;have hg:PG X (.Subscript (.Name x p) k sp) (lz (fT i) (tE w g c E ik) kD):=ub hv hk set_list (by intro v;cases k<;>first|rfl|(simp[isSlice]at hsl));refine PS.imp (kO he hg (by simp only[swapsWithSole];exact gC hc) rfl rfl) λD σ H ⟨H0,B,τ,S,ss,k⟩=>?_
 simp only[b4,bY,cc,b7,zF,bX,b6,zV,cg,zH,zx,zU,zS,zR,zT,zQ,zP,zO,zI]at k;refine s_e ss k λd v H1 _ p1 k1=>?_
 cases q:bW τ i with
 |ex z=>unfold bW at q;split at q<;>cases q
 |no=>rw[q]at k1;exact k1.elim
 |ok d0=>
  rw[q]at k1;have q':=nA q;have hi:zu c i:=⟨x,h1,ho⟩
  have s1:=ss.up p1.same;obtain⟨ad,vs,ds,z1,y1,rfl,y2,y3⟩:=s1.own i d0 hi q';refine⟨_,z1,s_e s1 (bK.up k1 (qT p1.same)) λn vn H2 _ p2 k2=>?_⟩;cases n with
  |int j=>
   simp only at k2;cases qj:ixN ds.length j with
   |none=>rw[qj]at k2;exact k2.elim
   |some m=>
    rw[qj]at k2;have s2:=s1.up p2.same;have y2':=p2.same _ _ y2;obtain⟨s3,s4⟩:=s2.change (vs:=vs.set m v) (ds:=ds.set m d) hfz hi q' z1 ((y3.mono (qT p2.same)).set ((p1.st hes).mono (qT p2.same)) m);exact⟨ad,vs,j,m,rfl,p2.rb.int,y2',by rw[<-y3.length];exact qj,k2 _ _ S s3 ((qT p2.same).trans s4)⟩
  |_=>exact k2.elim
theorem y6:PSs X [] (tSs w g c E fr .nil):=PSs.imp yD λD σ H ⟨H0,B,τ,S,ss,h⟩=>by
 simp only[qf]at h;exact h σ H S ss (qe.refl _)
theorem md{s:Stmt}{r:List Stmt}{is:EV.S}{ir:Ss}(h1:PS X s (tS w g c E fr is))(h2:PSs X r (tSs w g c E fr ir)):PSs X (s::r) (tSs w g c E fr (.cons is ir)):=
 PSs.imp (Ag h1 h2) λD σ H ⟨H0,B,τ,S,ss,h⟩=>by
  simp only[qf]at h;refine⟨H0,B,τ,S,ss,?_⟩;cases q:evS w is τ with
  |nx τ'=>rw[q]at h;exact λσ' H' S' s' e=>⟨H0,B,τ',S',s',bK.up h e⟩
  |bk τ'=>rw[q]at h;exact h
  |ct τ'=>rw[q]at h;exact h
  |rt d=>rw[q]at h;exact h
  |ex k=>rw[q]at h;exact h
  |no=>rw[q]at h;exact h
theorem pd{t:Expr}{a b:List Stmt}{it:T}{ia ib:Ss}{pos:Pos}(ht:PT X t (tT w g c E it))(ha:PSs X a (tSs w g c E fr ia))(hb:PSs X b (tSs w g c E fr ib)):PS X (.If t a b pos) (tS w g c E fr (.ite it ia ib)):=
 PS.imp (uz ht ha hb) λD σ H ⟨H0,B,τ,S,ss,h⟩=>by
  simp only[b4,bY,cc,b7,zF,bX,b6,zV,cg,zH,zx,zU,zS,zR,zT,zQ,zP,zO,zI]at h;refine s_t ss h λz H1 _ s1 k1=>?_
  cases z with
  |true=>exact⟨H0,B,τ,S,ss.up s1,bK.up k1 (qT s1)⟩
  |false=>exact⟨H0,B,τ,S,ss.up s1,bK.up k1 (qT s1)⟩
theorem PS.nox'{st:Stmt}{t:TS}(h:PS X.nox st t):PS X st t:=λpins s σ H D I hw=>
 bu (h pins s σ H D (I.wish _) hw) (λ_ _ q=>q.unwish) λ_ _ z=>aP z
theorem XO.nox(O:XO w g c E X):XO w g c E0 X.nox:=⟨O.K,O.nm,O.N,O.nd,O.calm,O.units,O.dp,O.fn,O.kind,iX rfl rfl,O.gok,O.fns,O.sub,O.fl⟩
theorem XS.nox(O:XS w g c E X):XS w g c E0 X.nox:=⟨O.toXO.nox,λ_ _ _ _ _ _ _ _ _ _ z=>aP z,O.exc,O.cat,O.frm,O.gh⟩
theorem yz{o:O}(h:bK g c E fr H0 B H S Ed o.noEx):bK g c E0 fr H0 B H S Ed o/\(∀k,o≠.ex k)/\o≠.no:=by
 cases o with
 |ex k=>exact h.elim
 |no=>exact h.elim
 |nx t=>exact⟨h,(λ_ z=>by cases z),(λz=>by cases z)⟩
 |bk t=>exact⟨h,(λ_ z=>by cases z),(λz=>by cases z)⟩
 |ct t=>exact⟨h,(λ_ z=>by cases z),(λz=>by cases z)⟩
 |rt t=>exact⟨h,(λ_ z=>by cases z),(λz=>by cases z)⟩
noncomputable def frozen(c:Cc)(b:Bool):Cc:={c with frz:=c.frz||b}
theorem XS.froze(O:XS w g c E X){b:Bool}:XS w g (frozen c b) E X:=
 ⟨⟨O.K,O.nm,O.N,O.nd,O.calm,O.units,O.dp,O.fn,O.kind,O.pass,O.gok,O.fns,O.sub,O.fl⟩,O.thr,O.exc,O.cat,O.frm,O.gh⟩
noncomputable def de(B:Sh)(b:Bool)(σ:L2.St)(H:Hp):Sh:=if b=true then ⟨B.o,B.h,σ,H⟩else B
theorem h_{b:Bool}:(de B b σ H).h=B.h:=by unfold de;split<;>rfl
theorem yH{b:Bool}{H1:Hp}:hid H1 (de B b σ H)=hid H1 B:=by funext a;unfold hid;rw[h_]
theorem SS.froze(b:Bool)(ss:SS g c H0 B τ σ H S):SS g (frozen c b) H0 (de B b σ H) τ σ H S:=by
 refine⟨⟨ss.se.len,ss.se.val,ss.se.sub⟩,ss.lenN,ss.same,?_,?_,ss.new,ss.own,ss.inj,λz=>?_⟩
 ·unfold de;split
  ·exact ss.sub0
  ·exact ss.sub0
 ·rw[h_];exact ss.hd
 ·cases b with
  |true=>exact⟨λi _=>rfl,qe.refl _⟩
  |false=>
   have z:(c.frz||false)=true:=z;rw[Bool.or_false]at z;exact ss.frz z
theorem SS.thaw{b:Bool}{σ1:L2.St}{H1:Hp}{τ1:Env}{S1:Sh}(s0:SS g c H0 B τ1 σ1 H1 S1)(ss:SS g (frozen c b) H0 (de B b σ1 H1) τ σ H S):SS g c H0 B τ σ H S:=by
 refine⟨⟨ss.se.len,ss.se.val,ss.se.sub⟩,ss.lenN,ss.same,s0.sub0,?_,ss.new,ss.own,ss.inj,λz=>?_⟩
 ·have:=ss.hd;rw[h_]at this;exact this
 ·have f:=ss.frz (by show (c.frz||b)=true;rw[z];rfl);cases b with
  |true=>exact⟨λi hi=>(f.1 i hi).trans ((s0.frz z).1 i hi),(s0.frz z).2.trans f.2⟩
  |false=>exact f
theorem SS.iced{b:Bool}{σ1:L2.St}{H1:Hp}(hb:b=true)(ss:SS g (frozen c b) H0 (de B b σ1 H1) τ σ H S):qe H1 H:=by
 subst hb;exact(ss.frz (by show (c.frz||true)=true;rw[Bool.or_true])).2
theorem tM(O:XO w g c E X)(hc:X.calm=true){tg it:Expr}{b:List Stmt}{itg:Tg}{iit:It}{ib:Ss}{pos:Pos}(hi:PI X.nox tg it (tIt w g c E0 iit))(hg:PG X.nox tg (gT X.K itg))(hf:fq c itg)(hb:PSs X.nox b (tSs w g (frozen c (owned iit)) E0 fr ib))(hs:zm it=true) :
  PS X (.For tg it b [] pos) (tS w g c E fr (.for itg iit ib)):=by
 refine PS.nox' (PS.imp (uZ (X:=X.nox) PassesOwn.never hc hi hg hb (λx=>by cases it<;>first|rfl|(simp[zm]at hs))) λD σ H ⟨H0,B,τ,S,ss,h⟩=>?_);simp only[b4,bY,cc,b7,zF,bX,b6,zV,cg,zH,zx,zU,zS,zR,zT,zQ,zP,zO,zI]at h;obtain⟨h,nex,nno⟩:=yz h;cases q:evI w iit τ with
 |ex z=>rw[q]at nex;exact absurd rfl (nex z)
 |no=>rw[q]at nno;exact absurd rfl nno
 |ok ds=>
  rw[q]at h nex nno;simp only[R.out_ok]at h nex nno;refine⟨τ,S,ss.se,?_⟩;rw[q];intro J H1 s1 kW kS;generalize hr:cf itg (λσ=>qf w ib σ) ds τ=r at h nex nno;refine⟨λi m σ' H'=>m=ds.length-i/\i<=ds.length/\∃τ' S',SS g (frozen c (owned iit)) H0 (de B (owned iit) σ H1) τ' σ' H' S'/\qe (hid H1 S) (hid H' S')/\cf itg (λσ=>qf w ib σ) (ds.drop i) τ'=r,⟨ds.length,rfl,Nat.zero_le _,τ,S,(ss.up s1).froze _,qe.refl _,hr⟩,?_⟩;rintro i m σ' H' ⟨rfl,hi',τ',S',ss',e',hl⟩;have gg:Goes g J ds H' S':=by
   cases hw:owned iit with
   |false=>exact kS hw H' S' e' ss'.se.sub
   |true=>exact kW H' S' (ss'.iced hw) e' ss'.se.sub
  obtain⟨g1,g2⟩:=gg;have eH:qe (hid H S) (hid H' S'):=(qT s1).trans e';by_cases hlt:i<ds.length
  ·have hd:ds[i]? = some ds[i]:=List.getElem?_eq_getElem hlt;obtain⟨go1,go2⟩:=g2 i ds[i] hd;refine .inr ⟨go1,λσ2 H2=>∃τ' S',SS g (frozen c (owned iit)) H0 (de B (owned iit) σ H1) τ' σ2 H2 S'/\qe (hid H1 S) (hid H2 S')/\cf itg (λσ=>qf w ib σ) (ds.drop (i+1)) τ'=r,λσ2 H2 z=>⟨ds.length-(i+1),by lia,rfl,hlt,z⟩,λx H2 hy=>?_⟩;obtain⟨s2,rx⟩:=go2 x H2 hy;rw[List.drop_eq_getElem_cons hlt]at hl;simp only[cf]at hl;cases q1:store itg ds[i] τ' with
   |ex z=>rw[q1]at hl;exact absurd hl.symm (nex z)
   |no=>rw[q1]at hl;exact absurd hl.symm nno
   |ok τ1=>
    rw[q1]at hl;simp only[R.out_ok]at hl;refine(ss'.up s2).store O.K hf rx q1 λσ1 ss1=>⟨H0,_,τ1,S',ss1,?_⟩
    cases q2:qf w ib τ1 with
    |nx τ2=>rw[q2]at hl;exact λσ2 H3 S3 s3 e3=>⟨τ2,S3,s3,(e'.trans (qT s2)).trans e3,hl⟩
    |ct τ2=>rw[q2]at hl;exact λσ2 H3 S3 s3 e3=>⟨τ2,S3,s3,(e'.trans (qT s2)).trans e3,hl⟩
    |bk τ2=>
     rw[q2]at hl;simp only at hl;rw[<-hl]at h;exact λσ2 H3 S3 s3 e3=>h σ2 H3 S3 ((ss.up s1).thaw s3) ((eH.trans (qT s2)).trans e3)
    |rt d=>
     rw[q2]at hl;simp only at hl;rw[<-hl]at h;refine λv H3 s3 r3 f3=>h v H3 s3 (by rw[yH]at r3;exact r3) λz=>?_
     have f3:=f3 z;unfold de at f3;split at f3
     ·exact f3
     ·exact f3
    |ex z=>rw[q2]at hl;exact absurd hl.symm (nex z)
    |no=>rw[q2]at hl;exact absurd hl.symm nno
  ·have e:i=ds.length:=by lia
   subst e;rw[List.drop_length]at hl;simp only[cf]at hl;rw[<-hl]at h;exact .inl ⟨g1 ds.length (aF _),h σ' H' S' ((ss.up s1).thaw ss') eH⟩
theorem wL{t:Expr}{b:List Stmt}{it:T}{ib:Ss}{pos:Pos}(ht:PT X.nox t (tT w g c E0 it))(hb:PSs X.nox b (tSs w g c E0 fr ib)):PS X (.While t b [] pos) (tS w g c E fr (.while it ib)):=λpins s σ H D I ⟨H0,B,τ,S,ss,h⟩=>by
 simp only[b4,bY,cc,b7,zF,bX,b6,zV,cg,zH,zx,zU,zS,zR,zT,zQ,zP,zO,zI]at h;exact aP h
theorem tU(O:XS w g c E X)(hc:X.calm=true)(ht:c.thr=true){x:Str}{a:Expr}{as:List Expr}{ies:Es}{np cp pos:Pos}{n:Nat}(h:glob c x=some .exc)(ha:PA X (a::as) (tA w g c E ies))(hes:cEs n c (a::as)=some ies)(hn:(a::as).length<=100000) :
  PS X (.Raise (some (.Call (.Name x np) (a::as) [] cp)) none pos) (tS w g c E fr (.raise x ies)):=by
 obtain⟨C,h1,h2⟩:=O.gm h;have hs:=dA hes;refine PS.imp (Ak O.frm.1 hc (O.thr ht) (by rw[O.K];exact O.exc x C (ze h).2.1 h2) (O.gl h) h1 ha (ze h).2.2.1 (qm (hs a aL)) (fz λz hz=>hs z (aI _ hz))) λD σ H ⟨H0,B,τ,S,ss,k⟩=>?_
 simp only[b4,bY,cc,b7,zF,bX,b6,zV,cg,zH,zx,zU,zS,zR,zT,zQ,zP,zO,zI]at k;refine s_a ss k λds vs H1 e1 s1 r k1=>⟨?_,k1 H1 C none (ss.same.trans s1) h2 (.inl ⟨rfl,rfl⟩)⟩
 have:vs.length=ds.length:=(Paired.length r).symm;rw[this,h8 hes e1];exact i9 hn
theorem yP(O:XS w g c E X)(hc:X.calm=true)(ht:c.thr=true){x:Str}{a:Expr}{as:List Expr}{ies:Es}{np cp pos:Pos}{n:Nat}(h:glob c x=some .exf)(ha:PA X (a::as) (tA w g c E ies))(hes:cEs n c (a::as)=some ies) :
  PS X (.Raise (some (.Call (.Name x np) (a::as) [] cp)) none pos) (tS w g c E fr (.raisF x ies)):=by
 obtain⟨C,h1,h2⟩:=O.gm h;have hs:=dA hes;intro pins s σ H D I ⟨H0,B,τ,S,ss,k⟩;simp only[b4,bY,cc,b7,zF,bX,b6,zV,cg,zH,zx,zU,zS,zR,zT,zQ,zP,zO,zI]at k;cases q:w.fld x with
 |none=>rw[q]at k;exact k.elim
 |some fs=>
  rw[q]at k;obtain⟨fI,z1,z2,z3,z4⟩:=O.fl x fs q C h2;refine wd O.frm.1 hc (O.thr ht) (O.K▸z1) (O.K▸z2) z3 z4 (λa=>by have:=pz X.A a;have:=O.dp;lia) (O.gl h) h1 ha (ze h).2.2.1 (qm (hs a aL)) (fz λz hz=>hs z (aI _ hz)) pins s σ H D I ?_;refine s_a ss k λds vs H1 e1 s1 r k1=>?_
  unfold gQ at k1;cases qi:ints? ds with
  |none=>rw[qi]at k1;exact k1.elim
  |some ns=>
   rw[qi]at k1;simp only at k1;split at k1
   ·rename_i hl
    obtain⟨L,_,rr⟩:=seen r;obtain⟨rfl,_⟩:=rr.ints qi;refine⟨by simpa using hl,λdx hdx=>?_⟩;exact k1 _ C (some dx) (ss.same.trans (s1.trans (zk hdx))) h2 (.inr ⟨dx,rfl,(ss.same.trans s1).free hdx,by rw[zp,List.zip_map_right];rfl⟩)
   ·exact k1.elim
end
section
variable{w:W}{g:Gc}{c:Cc}{E:XK}{fr:Bool}{X:Cx}{H0:Hp}{B:Sh}{τ:Env}{σ:L2.St}{H H':Hp}{S:Sh}{Ed:Ends}
theorem oJ{s:Stmt}:PS X s (tS w g c E fr .unk):=λpins s σ H D I ⟨H0,B,τ,S,ss,h⟩=>by
 simp only[b4,bY,cc,b7,zF,bX,b6,zV,cg,zH,zx,zU,zS,zR,zT,zQ,zP,zO,zI]at h;exact h.elim
theorem oS(O:XO w g c E X)(hfz:c.frz=false){x:Str}{i:Nat}{k a:Expr}{ik ia:EV.E}{p ap cp pos:Pos}(h:loc c x=some i)(ho:c.own.contains x=true)(hk:PE X k (tE w g c E ik))(ha:PE X a (tE w g c E ia))(hes:esc ia=true)(hsk:isStar k=false)(hs:isStar a=false)(hl:(ap.endLine==cp.line)=true) :
  PS X (.Expr (.Call (.Attribute (.Name x p) "insert" ap) [k,a] [] cp) pos) (tS w g c E fr (.ins i ik ia)):=λpins s σ H D I ⟨H0,B,τ,S,ss,h⟩=>by
 simp only[b4,bY,cc,b7,zF,bX,b6,zV,cg,zH,zx,zU,zS,zR,zT,zQ,zP,zO,zI]at h;exact aP h
theorem SS.cong{c':Cc}(hN:c'.N=c.N)(ho:c'.own=c.own)(hz:c'.frz=c.frz)(s:SS g c H0 B τ σ H S):SS g c' H0 B τ σ H S:=by
 cases c;cases c';simp only at hN ho hz;subst hN ho hz;exact⟨⟨s.se.len,s.se.val,s.se.sub⟩,s.lenN,s.same,s.sub0,s.hd,s.new,s.own,s.inj,s.frz⟩
theorem mS{i:Option Nat}{k:Xc}:(cB τ i k).length=τ.length:=by
 cases i<;>simp[cB]
theorem SS.hand{σ':L2.St}{k:Xc}{i:Option Nat}(ss:SS g c H0 B τ σ H S)(hz:c.frz=false)(he:c.own=[])(hs:qe H0 H')(hl:σ'.length=c.N.length)(hv:∀(j:Nat) (d:EV.D),(cB τ i k)[j]? = some (some d)->∃v,σ'[j]? = some (some v)/\Rep g (hid H' B) d v) :
  SS g (eO c) H0 B (cB τ i k) σ' H' ⟨λ_=>false,B.h,B.z,B.y⟩:=by
 have hh:hid H' ⟨λ_=>false,B.h,B.z,B.y⟩=hid H' B:=rfl;have no:∀j,¬ zu (eO c) j:=λj ⟨x,_,h2⟩=>by
  have h2:c.own.contains x=true:=h2;rw[he]at h2;cases h2
 refine⟨⟨by rw[mS,ss.lenN,hl],λj d h=>?_,λa ha=>?_⟩,by rw[mS];exact ss.lenN,hs,ss.sub0,(λa=>by simp),(λa ha=>by cases ha),λj d hj=>(no j hj).elim,λj _ d _ a hj=>(no j hj).elim,(λz=>by have z:c.frz=true:=z;rw[hz]at z;cases z)⟩
 ·obtain⟨v,h1,h2⟩:=hv j d h;exact⟨v,h1,.inl h2,λ_ _ _=>h2⟩
 ·refine(ss.sub0.same hs) a ?_;rcases ha with ha|ha
  ·exact .inl ha
  ·cases ha
noncomputable def EhT(w:W)(g:Gc)(b:Ss)(τ:Env)(H0:Hp):XK:=λcls o H'=>∃k C,cls=.ref C/\dB H0 H' o k.fs/\g.clA k.nm=some C/\qf w b τ=.ex k/\qe H0 H'
theorem nM{ib:Ss}{x:Str}{i:Option Nat}{ih:Ss}{c':Cc}(hN:c'.N=c.N)(ho:c'.own=c.own)(hz:c'.frz=c.frz)(h:bK g c E fr H0 B H S Ed (evS w (.try ib x i ih) τ)):bK g c' (EhT w g ib τ H0) fr H0 B H S Ed (qf w ib τ):=by
 simp only[b4,bY,cc,b7,zF,bX,b6,zV,cg,zH,zx,zU,zS,zR,zT,zQ,zP,zO,zI]at h;have c1:∀{τ':Env}{σ':L2.St}{H':Hp}{S':Sh},SS g c' H0 B τ' σ' H' S'->SS g c H0 B τ' σ' H' S':=λs=>s.cong hN.symm ho.symm hz.symm
 cases q:qf w ib τ with
 |nx τ'=>rw[q]at h;exact λσ' H' S' s e=>h σ' H' S' (c1 s) e
 |bk τ'=>rw[q]at h;exact λσ' H' S' s e=>h σ' H' S' (c1 s) e
 |ct τ'=>rw[q]at h;exact λσ' H' S' s e=>h σ' H' S' (c1 s) e
 |rt d=>rw[q]at h;exact h
 |ex k=>exact λH' C dx s hc hx=>⟨k,C,rfl,hx,hc,q,s⟩
 |no=>rw[q]at h;exact h
theorem kc{ib ih:Ss}{x:Str}{i:Option Nat}{k:Xc}(h:bK g c E false H0 B H S Ed (evS w (.try ib x i ih) τ))(q:qf w ib τ=.ex k):w.cat k.nm x=true/\∃d,qf w ih (cB τ i k)=.rt d/\∀v H',qe H0 H'->Rep g (hid H' B) d v->Ed.rt v H':=by
 simp only[b4,bY,cc,b7,zF,bX,b6,zV,cg,zH,zx,zU,zS,zR,zT,zQ,zP,zO,zI]at h;rw[q]at h;simp only at h;split at h
 ·rename_i hc
  refine⟨hc,?_⟩;cases z:qf w ih (cB τ i k)with
  |rt d=>rw[z]at h;exact⟨d,rfl,λv H' s r=>h v H' s r (by intro y;cases y)⟩
  |nx _=>rw[z]at h;exact h.elim
  |bk _=>rw[z]at h;exact h.elim
  |ct _=>rw[z]at h;exact h.elim
  |ex _=>rw[z]at h;exact h.elim
  |no=>rw[z]at h;exact h.elim
 ·exact h.elim
theorem XS.inTry(O:XS w g c E X){Eh:XK}{pn:List (Addr×Obj)}{Et:ae->af->Prop}(hp:Passes (CX1 X.prog X.w) (X.inTry pn Et) Eh):XS w g {c with thr:=false} Eh (X.inTry pn Et):=
 ⟨⟨O.K,O.nm,O.N,O.nd,O.calm,O.units,O.dp,O.fn,O.kind,hp,O.gok,O.fns,O.sub,O.fl⟩,(λz=>by cases z),O.exc,O.cat,O.frm,O.gh⟩
theorem XS.held(O:XS w g c E X)(x:Addr):XS w g (eO c) E0 (X.held x):=
 ⟨⟨O.K,O.nm,O.N,O.nd,(λz=>by cases z),O.units,O.dp,O.fn,O.kind,iX rfl rfl,(λy k z=>(O.gh y k z).2 _),(λz=>by cases z),O.sub,O.fl⟩,(λz=>by cases z),(λy C z _=>absurd rfl (O.gh y .exc z).1),O.cat,O.frm,(λy k z=>by cases z)⟩
theorem o9(O:XS w g c E X){x:Str}{b:List Stmt}{b₀:Stmt}{suite:List Stmt}{ib ih:Ss}{np hpos pos:Pos}(hfz:c.frz=false)(he:c.own=[])(hg:glob c x=some .exc\/glob c x=some .exk)
  (hb:∀(Eh:XK) pn Et,XS w g {c with thr:=false} Eh (X.inTry pn Et)->PSs (X.inTry pn Et) b (tSs w g {c with thr:=false} Eh false ib)) (hs:∀y,PSs (X.held y) (b₀::suite) (tSs w g (eO c) E0 false ih)) :
  PS X (.Try b [.ExceptHandler (some (.Name x np)) none (b₀::suite) hpos] [] [] pos) (tS w g c E false (.try ib x none ih)):=by
 have hG:∃C,X.mg x=some (.ref C)/\g.clA x=some C/\Gl X x/\(x==("__debug__" : Str))=false:=by
  rcases hg with h|h
  ·obtain⟨C,h1,h2⟩:=O.gm h;exact⟨C,h1,h2,O.gl h,(ze h).2.2.1⟩
  ·obtain⟨C,h1,h2⟩:=O.gm h;exact⟨C,h1,h2,O.gl h,(ze h).2.2.1⟩
 obtain⟨C,hm,hc,hgl,hd⟩:=hG;intro pins s σ H D I ⟨H0,B,τ,S,ss,h⟩;refine y_ (Eh:=EhT w g ib τ H0) O.frm.1 O.frm.2.1 O.frm.2.2 hgl hm (λpn Et hp=>hb _ pn Et (O.inTry hp)) hs hd pins s σ H D I ⟨⟨H0,B,τ,S,SS.cong (c:=c) rfl rfl rfl ss,nM (c:=c) rfl rfl rfl h⟩,λσ' cls dx H' hl hE=>?_⟩;obtain⟨k,C',rfl,hxd,hk,q,sm⟩:=hE;obtain⟨z1,d,z2,z3⟩:=kc h q;refine⟨by rw[O.K];exact O.cat k.nm x z1 C' C hk hc,H0,B,cB τ none k,⟨λ_=>false,B.h,B.z,B.y⟩,ss.hand hfz he sm (by rw[hl,O.N]) (λj d hj=>?_),?_⟩
 ·simp only[cB,List.getElem?_map]at hj;cases z:τ[j]? with
  |none=>rw[z]at hj;cases hj
  |some o=>rw[z]at hj;cases hj
 ·rw[z2];exact λv H'' s' r _=>z3 v H'' s' r
theorem oB(O:XS w g c E X){x n:Str}{i:Nat}{b:List Stmt}{b₀:Stmt}{suite:List Stmt}{ib ih:Ss}{np hpos pos:Pos}(hfz:c.frz=false)(he:c.own=[])(hg:glob c x=some .exc\/glob c x=some .exk)(hi:c.N[i]? = some n)(hn:c.nm.lookup n=some .local)
  (hb:∀(Eh:XK) pn Et,XS w g {c with thr:=false} Eh (X.inTry pn Et)->PSs (X.inTry pn Et) b (tSs w g {c with thr:=false} Eh false ib)) (hs:∀y,PSs (X.held y) (b₀::suite) (tSs w g (eO c) E0 false ih)) :
  PS X (.Try b [.ExceptHandler (some (.Name x np)) (some n) (b₀::suite) hpos] [] [] pos) (tS w g c E false (.try ib x (some i) ih)):=by
 have hG:∃C,X.mg x=some (.ref C)/\g.clA x=some C/\Gl X x/\(x==("__debug__" : Str))=false:=by
  rcases hg with h|h
  ·obtain⟨C,h1,h2⟩:=O.gm h;exact⟨C,h1,h2,O.gl h,(ze h).2.2.1⟩
  ·obtain⟨C,h1,h2⟩:=O.gm h;exact⟨C,h1,h2,O.gl h,(ze h).2.2.1⟩
 obtain⟨C,hm,hc,hgl,hd⟩:=hG;intro pins s σ H D I ⟨H0,B,τ,S,ss,h⟩;have hlt:i<c.N.length:=(List.getElem?_eq_some_iff.mp hi).1;refine yU (Eh:=EhT w g ib τ H0) (i:=i) O.frm.1 O.frm.2.1 O.frm.2.2 (by rw[O.N];exact O.nd) (by rw[O.N];exact hi) (by rw[O.nm];exact hn) hgl hm (λpn Et hp=>hb _ pn Et (O.inTry hp)) hs hd pins s σ H D I ⟨⟨H0,B,τ,S,SS.cong (c:=c) rfl rfl rfl ss,nM (c:=c) rfl rfl rfl h⟩,λσ' cls dx H' x' hl hE hx=>?_⟩;obtain⟨k,C',rfl,hxd,hk,q,sm⟩:=hE;obtain⟨z1,d,z2,z3⟩:=kc h q;have s2:qe H' (upd H' x' (dJ x' (.ref C') dx)):=zk hx;refine⟨by rw[O.K];exact O.cat k.nm x z1 C' C hk hc,H0,B,cB τ (some i) k,⟨λ_=>false,B.h,B.z,B.y⟩,ss.hand hfz he (sm.trans s2) (by rw[List.length_set,hl,O.N]) (λj d hj=>?_),?_⟩
 ·simp only[cB]at hj;have hi':i<σ'.length:=by rw[hl,O.N];exact hlt
  by_cases hij:i=j
  ·subst hij;have hlt':i<(τ.map λ_=>(none:Option EV.D)).length:=by rw[aW,ss.lenN];exact hlt
   rw[List.getElem?_set_self hlt']at hj;cases hj;refine⟨.ref x',by rw[List.getElem?_set_self hi'],.exn hk (bA.mpr ⟨ss.sub0.free (sm.free hx),zp⟩) (hxd.hid ss.sub0 s2) ?_⟩;rintro rfl;rcases hxd with ⟨_,e⟩|⟨d,e,_,e2⟩
   ·cases e
   ·cases e;rw[hx]at e2;cases e2
  ·rw[List.getElem?_set_ne hij,List.getElem?_map]at hj;cases z:τ[j]? with
   |none=>rw[z]at hj;cases hj
   |some o=>rw[z]at hj;cases hj
 ·rw[z2];exact λv H'' s' r _=>z3 v H'' s' r
end
theorem w6{e:Expr}{x:Str}{ap cp:Pos}{k a:Expr}(h:ly e=some (x,ap,k,a,cp)):∃p,e=.Call (.Attribute (.Name x p) "insert" ap) [k,a] [] cp:=by cases h
theorem x9{ts:List Expr}{k:Nat}{p:Pos}{e:Expr}{env:PySem.Env}(h:isTup e=true->jv e=true):swappedStores [.Tuple ts k p] e env=pure none:=by
 cases e<;>first|rfl|skip
 rename_i vs k2 p2
 have h:vs.all (foldedForSure 8)=true:=h rfl;unfold swappedStores;simp only[h,if_true];split
 ·rfl
 ·split
  ·rfl
  ·split
   ·rfl
   ·rfl
section
variable{w:W}{g:Gc}{c:Cc}{E:XK}{fr:Bool}{X:Cx}
theorem r0(O:XO w g c E X){n:Nat}(hn:n<=100000){x:Str}{i:Nat}{elt:Expr}{gs:List bV}{sc:aN}{p p' pos:Pos}{ie:EV.E}(hl:cH c x=some i)(h:cE n c (.ListComp elt gs sc p)=some ie)(htw:ij (.ListComp elt gs sc p)=false)(hk:(zu c i/\fresh c ie=true/\c.frz=false)\/(¬ zu c i/\esc ie=true)) :
  PS X (.Assign [.Name x p'] (.ListComp elt gs sc p) pos) (tS w g c E fr (.set (.nm i) ie)):=by
 obtain⟨l1,l2⟩:=dX hl;obtain⟨l3,_⟩:=dz l1;have hlt:i<c.N.length:=(List.getElem?_eq_some_iff.mp l3).1;have hN:X.N.Nodup:=by rw[O.N];exact O.nd
 have hix:X.N[i]? = some x:=by rw[O.N];exact l3
 have hx:L2.Loc X.env.scope x:=by unfold L2.Loc;rw[O.nm];rcases l2 with z|z;exact .inl z;exact .inr z.1
 have hf:X.fn x=true\/X.env.scope.names.lookup x=some .local:=by
  rcases l2 with z|z
  ·exact .inr (by rw[O.nm];exact z)
  ·exact .inl (O.fn x z.2)
 cases hb:(X.env.blockKind==.function&&X.env.kindOf x==some .local&&p'.line==p.line && !(sc.names.any λ(n,k)=>n==x&&(k==.local||k==.cell)))with
 |false=>
  have hs:swapsWith (.ListComp elt gs sc p) (some (.Name x p')) pos.line X.env=pure false:=by rw[<-hb];rfl
  exact jq (e:=.ListComp elt gs sc p) (kH hN hix hx ((snd n hn).e O h) hs hf) (λ_ _ _ z=>z) hlt hk
 |true=>
  have hs:swapsWith (.ListComp elt gs sc p) (some (.Name x p')) pos.line X.env=pure true:=by rw[<-hb];rfl
  match n,h with
  | 0,h=>cases h
  |m+1,h=>
   have ih:=snd (w:=w) (g:=g) m (Nat.le_of_succ_le hn);obtain⟨tgt,it,ifs,iit,itg,it',ie',rfl,hs1,hk1,h1,h2,h3,h4,he,rfl⟩:=j_ h;have hS:cN X (bM sc.names) (eM c sc.names) sc:=cN.of (by
    have e1:(λx=>c.nm.lookup x)=X.env.kindOf:=by funext x;show _=X.env.scope.names.lookup x;rw[O.nm]
    rw[<-e1,O.N];exact hk1.1)
   refine jq (e:=.ListComp elt [⟨tgt,it,ifs,0⟩] sc p) (pF (tb:=λacc=>fZ acc (tE w g (cD c sc) E0 ie')) hN hix hx (O.calm hs1.1) hS (ih.i O h1 he.2) (λcl C s₀ H₀ fp=>?_) (by simp) hs hf (λx=>by
    have q:=hs1.2;cases it<;>first|rfl|cases q)) (λσ H Q q=>ka O hS he.1 q) hlt hk
   have OY:=O.comp hS.kind hk1.2 cl C s₀ H₀ fp;exact⟨gW OY h2,ih.ifs OY h3,λacc=>kE rfl (ih.e OY h4)⟩
end
structure fR(w:W)(g:Gc)(n:Nat):Prop where
 s:∀{c:Cc}{E:XK}{X:Cx} (O:XS w g c E X) {fr:Bool}{x:Stmt}{ir:EV.S},cS n c fr x=some ir->PS X x (tS w g c E fr ir)
 ss:∀{c:Cc}{E:XK}{X:Cx} (O:XS w g c E X) {fr:Bool}{x:List Stmt}{ir:Ss},cSs n c fr x=some ir->PSs X x (tSs w g c E fr ir)
section
variable{w:W}{g:Gc}{n:Nat}
theorem fR.ss_succ(ih:fR w g n){c:Cc}{E:XK}{X:Cx}(O:XS w g c E X){fr:Bool}{x:List Stmt}{ir:Ss}(h:cSs (n+1) c fr x=some ir):PSs X x (tSs w g c E fr ir):=by
 match x with
 | []=>simp only[cSs,bN]at h;subst h;exact y6
 |s::r=>
  simp only[cSs,aB,az]at h;obtain⟨ir',h2,h⟩:=h;cases h;cases h1:cS n c fr s with
  |none=>exact md oJ (ih.ss O h2)
  |some is=>exact md (ih.s O h1) (ih.ss O h2)
theorem yy{c:Cc}{x:Str}{i:Nat}(h:c.N[i]? = some x):zu c i↔c.own.contains x=true:=⟨λ⟨y,h1,h2⟩=>by rw[h]at h1;cases h1;exact h2,λh2=>⟨x,h,h2⟩⟩
theorem rD{e:Expr}{x m:Str}{ap cp:Pos}{a:Expr}(h:iS e=some (x,m,ap,a,cp)):∃p,e=.Call (.Attribute (.Name x p) m ap) [a] [] cp:=by
 unfold iS at h;split at h
 ·split at h
  ·split at h
   ·split at h
    ·split at h
     ·rename_i hk;cases h;rw[List.isEmpty_iff]at hk;subst hk;exact⟨_,rfl⟩
     ·cases h
    ·cases h
   ·cases h
  ·cases h
 ·cases h
theorem p7{e:Expr}{x:Str}{a:Expr}{as:List Expr}(h:raiseOf e=some (x,a,as)):∃p q,e=.Call (.Name x p) (a::as) [] q:=by
 unfold raiseOf at h;split at h
 ·split at h
  ·split at h
   ·split at h
    ·rename_i hk;cases h;rw[List.isEmpty_iff]at hk;subst hk;exact⟨_,_,rfl⟩
    ·cases h
   ·cases h
  ·cases h
 ·cases h
theorem fR.s_succ(ih:fR w g n)(hn:n<=100000){c:Cc}{E:XK}{X:Cx}(O:XS w g c E X){fr:Bool}{x:Stmt}{ir:EV.S}(h:cS (n+1) c fr x=some ir):PS X x (tS w g c E fr ir):=by
 have K:=snd (w:=w) (g:=g) n hn;unfold cS at h;split at h
 ·rename_i ts0 e pos
  split at h
  ·rename_i t0
   split at h
   ·-- x = e
    rename_i y p
    split at h
    ·cases h
    rename_i htw
    have htw:ij e=false:=by simpa using htw
    simp only[aB,az]at h;obtain⟨i,hl,ie,h1,h⟩:=h;obtain⟨l1,l2⟩:=dX hl;obtain⟨l3,_⟩:=dz l1;have ho:=yy l3;have hk:((zu c i/\fresh c ie=true/\c.frz=false)\/(¬ zu c i/\esc ie=true))/\ir=.set (.nm i) ie:=by
     split at h
     ·rename_i hy
      split at h
      ·rename_i hf;cases h;exact⟨.inl ⟨ho.mpr hy,by simpa using hf⟩,rfl⟩
      ·cases h
     ·rename_i hy
      split at h
      ·rename_i hf;cases h;exact⟨.inr ⟨λz=>hy (ho.mp z),hf⟩,rfl⟩
      ·cases h
    obtain⟨hk,rfl⟩:=hk;cases hc:dw e with
    |false=>
     refine jq (e:=e) (kH (i:=i) (by rw[O.N];exact O.nd) (by rw[O.N];exact l3) (by unfold L2.Loc;rw[O.nm];rcases l2 with z|z;exact .inl z;exact .inr z.1) (K.e O.toXO h1) (gC hc) ?_) (λ_ _ _ z=>z) (List.getElem?_eq_some_iff.mp l3).1 hk;rcases l2 with z|z
     ·exact .inr (by rw[O.nm];exact z)
     ·exact .inl (O.fn y z.2)
    |true=>
     cases e with
     |ListComp elt gs sc p=>exact r0 O.toXO hn hl h1 htw hk
     |SetComp elt gs sc p=>match n,h1 with
      | 0,h1=>cases h1
      |m+1,h1=>cases h1
     |DictComp a b gs sc p=>match n,h1 with
      | 0,h1=>cases h1
      |m+1,h1=>cases h1
     |_=>cases hc
   ·-- (a, b) = e
    rename_i ts k p
    simp only[aB,az]at h;obtain⟨tg,h1,ie,h2,h⟩:=h;split at h
    ·cases h
    ·rename_i hc
     have hc:((isTup e=true->jv e=true)/\dw e=false)/\esc ie=true:=by simpa using hc
     cases h;refine tV O.toXO (K.e O.toXO h2) (gW O.toXO h1) (lu h1) hc.2 (by simp only[swapsWithSole];exact gC hc.1.2) ?_ rfl;exact x9 hc.1.1
   ·-- x[k] = e
    split at h
    ·simp only[aB,az]at h;obtain⟨i,hl,ie,h1,ik,h2,h⟩:=h;split at h
     ·rename_i hc
      simp only[aJ,bH]at hc;cases h;exact sJ O.toXO hc.2 (dX hl).1 hc.1.1.1.1 (K.e O.toXO h2) (K.e O.toXO h1) hc.1.1.1.2 hc.1.1.2 hc.1.2
     ·cases h
    ·cases h
   ·cases h
  ·cases h
 ·split at h
  ·-- x.insert(k, a)
   rename_i he
   obtain⟨p,rfl⟩:=w6 he;simp only[aB,az]at h;obtain⟨i,hl,ik,h0,ia,h1,h⟩:=h;split at h
   ·rename_i hc
    simp only[aJ,bH,beq_iff_eq]at hc;cases h;obtain⟨⟨⟨⟨⟨c2,c3⟩,c4⟩,c5⟩,c6⟩,c7⟩:=hc;exact oS O.toXO c7 (dX hl).1 c2 (K.e O.toXO h0) (K.e O.toXO h1) c3 c4 c5 (by simpa using c6)
   ·cases h
  split at h
  ·-- x.append(a)
   rename_i he
   obtain⟨p,rfl⟩:=rD he;simp only[aB,az]at h;obtain⟨i,hl,ia,h1,h⟩:=h;split at h
   ·rename_i hc
    simp only[aJ,bH,beq_iff_eq]at hc;cases h;obtain⟨⟨⟨⟨⟨rfl,c2⟩,c3⟩,c4⟩,c5⟩,c6⟩:=hc;exact rG O.toXO c6 (dX hl).1 c2 (K.e O.toXO h1) c3 c4 (by simpa using c5)
   ·cases h
  ·split at h
   ·cases h
   ·rename_i hc
    simp only[aB,az]at h;obtain⟨ie,h1,h⟩:=h;cases h;exact sT (K.e O.toXO h1) (by simpa using hc)
 ·split at h
  ·-- return e
   rename_i e
   simp only[aB,az]at h;obtain⟨ie,h1,h⟩:=h;split at h
   ·rename_i hf
    split at h
    ·rename_i y p
     split at h
     ·rename_i ho
      simp only[bF]at h;obtain⟨i,hl,rfl⟩:=h;exact x8 O.toXO hl ho
     ·cases h
    ·split at h
     ·rename_i hfr
      cases h;exact lx (K.e O.toXO h1) λ_=>hfr
     ·cases h
   ·rename_i hf
    cases h;exact lx (K.e O.toXO h1) λz=>absurd z hf
  ·split at h
   ·cases h
   ·rename_i hf
    cases h;exact yN (by simpa using hf)
 ·simp only[aB,az]at h;obtain⟨it,h1,ia,h2,ib,h3,h⟩:=h;cases h;exact pd (K.t O.toXO h1) (ih.ss O h2) (ih.ss O h3)
 ·split at h
  ·cases h
  ·rename_i tg0 it0 b0 els0 pos0 hc
   have hc:(els0=[]/\c.calm=true)/\zm it0=true:=by simpa using hc
   obtain⟨⟨rfl,hc1⟩,hc2⟩:=hc;simp only[aB,az]at h;obtain⟨tg,h1,it,h2,h⟩:=h;split at h
   ·cases h
   ·rename_i ho
    have ho:eY it tg0=true:=by simpa using ho
    simp only[az]at h;obtain⟨ib,h3,h⟩:=h;cases h;exact tM O.toXO (O.calm hc1) (K.i O.toXO.nox h2 ho) (gW O.toXO.nox h1) (lu h1) (ih.ss O.nox.froze h3) hc2
 ·split at h
  ·cases h
  ·rename_i els0 _ hc
   have hc:els0=[]/\c.calm=true:=by simpa using hc
   obtain⟨rfl,hc⟩:=hc;simp only[aB,az]at h;obtain⟨it,h1,ib,h2,h⟩:=h;cases h;exact wL (K.t O.toXO.nox h1) (ih.ss O.nox h2)
 ·split at h
  ·split at h
   ·rename_i hr
    obtain⟨p0,q0,rfl⟩:=p7 hr;split at h
    ·cases h
    ·rename_i hc
     simp only[cx,bH,not_or,Bool.not_eq_false,Option.isNone_iff_eq_none]at hc;obtain⟨⟨rfl,hc1⟩,hc2⟩:=hc;split at h
     ·rename_i hg
      simp only[aB,az]at h;obtain⟨ies,h1,h⟩:=h;cases h;exact tU O (O.calm hc1) hc2 hg (K.es O.toXO h1) h1 (aZ (hZ h1) hn)
     ·rename_i hg
      simp only[aB,az]at h;obtain⟨ies,h1,h⟩:=h;cases h;exact yP O (O.calm hc1) hc2 hg (K.es O.toXO h1) h1
     ·cases h
   ·cases h
  ·cases h
 ·-- try
  split at h
  ·split at h
   ·rename_i b0 els0 fin0 pos0 hs0 y0 h0 hp0 ty0 x0 np0
    split at h
    ·cases h
    ·rename_i hc
     have hc:(((((((els0=[]/\fin0=[])/\c.calm=true)/\c.fnc=true)/\fr=false)/\h0≠[])/\c.own=[])/\c.frz=false):=by simpa using hc
     obtain⟨⟨⟨⟨⟨⟨⟨rfl,rfl⟩,hc1⟩,hc2⟩,rfl⟩,hc3⟩,hc4⟩,hc5⟩:=hc;simp only[aB,az]at h;obtain⟨ib,h1,ihd,h2,h⟩:=h;split at h
     ·cases h
     ·rename_i hg
      have hg:glob c x0=some .exc\/glob c x0=some .exk:=by
       by_cases z:glob c x0=some .exc
       ·exact .inl z
       ·exact .inr (by simpa[z]using hg)
      match h0,hc3,h2 with
      | [],hc3,_=>exact absurd rfl hc3
      |b₀::suite,_,h2=>
       split at h
       ·cases h;exact o9 O hc5 hc4 hg (λEh pn Et O'=>ih.ss O' h1) (λy=>ih.ss (O.held y) h2)
       ·simp only[az]at h;obtain⟨i,hl,h⟩:=h;split at h
        ·rename_i hn
         cases h;exact oB O hc5 hc4 hg (dz (dX hl).1).1 (by simpa using hn) (λEh pn Et O'=>ih.ss O' h1) (λy=>ih.ss (O.held y) h2)
        ·cases h
   ·cases h
  ·cases h
 ·cases h;exact xM
 ·cases h;exact wN
 ·cases h;exact uO
 ·cases h
theorem kZ:∀n,n<=100000->fR w g n
 | 0,_=>⟨λ_ _ _ _ h=>(by cases h),λ_ _ _ _ h=>by simp[cSs]at h⟩
 |n+1,h=>
  have ih:=kZ n (Nat.le_of_succ_le h)
  ⟨λO _ _ _ q=>ih.s_succ (Nat.le_of_succ_le h) O q,λO _ _ _ q=>ih.ss_succ O q⟩
end
section
variable{w:W}{g:Gc}{c:Cc}{E:XK}{fr:Bool}{X:Cx}{H0:Hp}{B:Sh}{τ:Env}{σ:L2.St}{H H':Hp}{S:Sh}{n:Nat}
noncomputable def iu(g:Gc)(E:XK)(fr:Bool)(H0:Hp)(B:Sh)(D:Ends):O->Prop
 | .nx _=>∀σ' H',qe H0 H'->D.nx σ' H'
 | .rt d=>∀v H',qe H0 H'->Rep g (hid H' B) d v->(fr=true->Fr g H0 B H' d v)->D.rt v H'
 | .ex k=>∀H' C dx,qe H0 H'->g.clA k.nm=some C->dB H0 H' dx k.fs->E (.ref C) dx H'
 |_=>False
theorem iu.out{D:Ends}{o:O}(h:iu g E fr H0 B D o):bK g c E fr H0 B H S D o:=by
 cases o with
 |nx t=>exact λσ' H' S' ss _=>h σ' H' ss.same
 |rt d=>exact h
 |ex k=>exact h
 |bk t=>exact h.elim
 |ct t=>exact h.elim
 |no=>exact h.elim
noncomputable def rP(w:W)(g:Gc)(c:Cc)(E:XK)(fr:Bool)(s:Ss):TS:=λD σ H=>∃H0 B τ S,SS g c H0 B τ σ H S/\iu g E fr H0 B D (qf w s τ)
theorem uP(hn:n<=100000)(O:XS w g c E X){x:List Stmt}{ir:Ss}(h:eR n c fr x=some ir):PSs X x (rP w g c E fr ir):=
 PSs.imp ((kZ n hn).ss O h) λD σ H ⟨H0,B,τ,S,ss,z⟩=>⟨H0,B,τ,S,ss,z.out⟩
end
noncomputable def GM0(p:Pr)(g:Gc)(mg:Str->Option ae)(x:Str):GK->Prop
 | .fn _=>∃f,g.fnA x=some f
 | .val=>∃u v d,mg x=some u/\RelV v u/\p.glb x=some d/\∀H,Rep g H d v
 | .bi b=>mg x=none/\x=b1N b/\∃id,b1V b=.builtin id
 | .rng=>mg x=none/\x = "range"
 | .enum=>mg x=none/\x = "enumerate"
 | .zip=>mg x=none/\x = "zip"
 | .isi=>mg x=none/\x = "isinstance"
 | .ty n b=>mg x=none/\bx x=some (.type n)/\(n∈["int","bool","str","list","tuple"]\/n = "ValueError")/\∀b',b=some b'->x=b1N b'/\b1V b'=.type n
 | .exc=>∃C,mg x=some (.ref C)/\g.clA x=some C/\iM g.K C
 | .exk=>∃C,mg x=some (.ref C)/\g.clA x=some C
 | .exf=>∃C,mg x=some (.ref C)/\g.clA x=some C
 | .set=>mg x=none/\bx x=some (.type "set")
structure Ground(p:Pr)(g:Gc)(G GH GU:List (Str×GK))(mg:Str->Option ae):Prop where
 fn:∀x f,g.fnA x=some f->∃st own fr fd fnn,p.fns x=some fnn/\cFn G GH own fr st=some fnn/\Fun g.K x x st f fd/\Binds g.K fd (argNames (qo st)) []/\bT g.K (.ref f)=true/\mg x=some (.ref f)/\G.lookup x=some (.fn fr)
 gl:∀x k,G.lookup x=some k->GM0 p g mg x k
 gu:∀x k,GU.lookup x=some k->(∀fr,k≠.fn fr)/\k≠.exc/\GM0 p g mg x k
 gh:∀x k,GH.lookup x=some k->GU.lookup x=some k\/∃fr f st own fd fnn,k=.fn fr/\g.fnA x=some f/\p.fns x=some fnn/\eS GU own fr st=some fnn/\Fun g.K x x st f fd/\Binds g.K fd (argNames (qo st)) []/\bT g.K (.ref f)=true/\mg x=some (.ref f)
 sub:∀k cl b,p.sub k cl=some b->∃C cv,g.clA k=some C/\zD g.K C/\a_ g.K (.ref C) cv=some b/\match cl with
  | .ty n=>n = "ValueError"/\cv=.type n
  | .ex x=>∃D,g.clA x=some D/\cv=.ref D
 cat:∀k x,p.cat k x=true->∀C D,g.clA k=some C->g.clA x=some D->bG g.K (.ref C) (.ref D)=some true
 fl:mm p.fld g
abbrev wAt(p:Pr)(k:Nat):W:=⟨qa p k,p.glb,p.sub,p.cat,p.fld⟩
theorem kR{N ps:List Str}{sc:aN}(h:eK N ps sc=true):eB N ps sc:=by
 unfold eK at h;simp only[aJ,beq_iff_eq,bH,decide_eq_true_eq,List.all_eq_true,cx,bne_iff_ne,ne_eq]at h;obtain⟨⟨⟨⟨⟨⟨h1,h2⟩,h3⟩,h4⟩,h5⟩,h6⟩,h7⟩:=h;exact⟨h1,h2,h3,h4,h5,h6,h7⟩
theorem pW{G GH:List (Str×GK)}{own:List Str}{fr:Bool}{st:Stmt}{fnn:Fn}(h:cFn G GH own fr st=some fnn):eK (dg (qo st) (qk st)) (argNames (qo st)) (qk st)=true/\(argNames (qo st)).any own.contains=false /\
  ∃b,eR fm ⟨(qk st).names,dg (qo st) (qk st),own,G,true,true,true,GH,[],false⟩ fr (zB st)=some b/\fnn=⟨(argNames (qo st)).length,(dg (qo st) (qk st)).length,fr,b⟩:=by
 unfold cFn at h;dsimp only at h;split at h
 ·cases h
 ·rename_i hc
  simp only[cx,bH,not_or,Bool.not_eq_false,Bool.not_eq_true]at hc;simp only[aB,az,bN]at h;obtain⟨b,h1,h2⟩:=h;exact⟨hc.1,hc.2,b,h1,h2.symm⟩
theorem yA{GU:List (Str×GK)}{own:List Str}{fr:Bool}{st:Stmt}{fnn:Fn}(h:eS GU own fr st=some fnn):eK (dg (qo st) (qk st)) (argNames (qo st)) (qk st)=true/\(argNames (qo st)).any own.contains=false /\
  ∃b,eR fm ⟨(qk st).names,dg (qo st) (qk st),own,GU,false,true,false,[],[],false⟩ fr (zB st)=some b/\fnn=⟨(argNames (qo st)).length,(dg (qo st) (qk st)).length,fr,b⟩:=by
 unfold eS at h;dsimp only at h;split at h
 ·cases h
 ·rename_i hc
  simp only[cx,bH,not_or,Bool.not_eq_false,Bool.not_eq_true]at hc;simp only[aB,az,bN]at h;obtain⟨b,h1,h2⟩:=h;exact⟨hc.1,hc.2,b,h1,h2.symm⟩
section
variable{P:av}{w:au}{K:aq}{mg:Str->Option ae}{base:Heap}{N:List Str}{qual:Str}{scope:aN}{f:Addr}{cd:ae}{A:aw}{outer:List PySem.Env}{s₀:af}{H₀:Hp}{E:XK}
theorem xp:Passes (CX1 P w) (et (CX1 P w) P w K mg base N qual scope f cd A outer s₀ H₀ E) E:=by
 intro pins σ H s e s' I h;obtain⟨x,cls,dx,H',rfl,I',F,q⟩:=gB rfl rfl I rfl h;exact bL.leaves (env:=(et (CX1 P w) P w K mg base N qual scope f cd A outer s₀ H₀ E).env) (outer:=outer) I' rfl rfl rfl F q
end
theorem GM0.gm{p:Pr}{g:Gc}{mg:Str->Option ae}{x:Str}{k:GK}{P:av}{wl:au}{base:Heap}{A:aw}{calm:Bool}{n:Nat}(h:GM0 p g mg x k)(hf:∀fr,k≠.fn fr):GM (wAt p n) g P wl mg base A calm x k:=by
 cases k with
 |fn fr'=>exact absurd rfl (hf fr')
 |exc=>obtain⟨C,h1,h2,_⟩:=h;exact⟨C,h1,h2⟩
 |val=>exact h
 |bi b=>exact h
 |rng=>exact h
 |enum=>exact h
 |zip=>exact h
 |isi=>exact h
 |ty n b=>exact h
 |exk=>exact h
 |exf=>exact h
 |set=>exact h
theorem lr{w:W}{g:Gc}{c:Cc}{E:XK}{X:Cx}{N ps own:List Str}{sc:aN}{fr:Bool}{body:List Stmt}{b:Ss}(hcN:c.N=N)(hco:c.own=own)(hcz:c.frz=false)(FS:eB N ps sc)(c2:ps.any own.contains=false)(c3:eR fm c fr body=some b)
  (O:XS w g c E X) {vs:List V}{ds:List D}{B:Sh}{H:Hp}{Q:VK} (hB:Sub B H) (rv:qt g (hid H B) ds vs) (hl:ds.length=ps.length)
  (h:tR g E H (match qf w b (ds.map some++bD (N.length-ps.length) none)with
   | .nx _=>if fr then .no else .ok .non
   | .rt d=>.ok d
   | .ex c=>.ex c
   |_=>.no) (λd=>∀v H',qe H H'->Rep g (hid H' B) d v->(fr=true->Fr g H B H' d v)->Q v H')) :
  ∃t,PSs X body t/\t {nx:=λ_ H'=>Q .non H',rt:=Q} (start N vs) H:=by
 have hNl:ps.length<=N.length:=by have:=congrArg List.length FS.pre;rw[List.length_take]at this;lia
 refine⟨_,uP (by decide) O c3,H,B,ds.map some++bD (N.length-ps.length) none,⟨λ_=>false,B.h,B.z,B.y⟩,?_,?_⟩
 ·-- at the start
  have hh:hid H ⟨λ_=>false,B.h,B.z,B.y⟩=hid H B:=rfl;have hvl:=rv.length;have par:∀i d,(ds.map some++bD (N.length-ps.length) none)[i]? = some (some d)->i<ps.length/\ds[i]? = some d:=λi d hi=>by
   by_cases hlt:i<ds.length
   ·rw[List.getElem?_append_left (by simpa using hlt),List.getElem?_map]at hi;refine⟨by lia,?_⟩;cases q:ds[i]? with
    |none=>rw[q]at hi;cases hi
    |some e=>rw[q]at hi;simpa using hi
   ·rw[List.getElem?_append_right (by simpa using hlt)]at hi;rw[List.getElem?_replicate]at hi;split at hi<;>cases hi
  have noOwn:∀i d,zu c i->(ds.map some++bD (N.length-ps.length) none)[i]? = some (some d)->False:=λi d ⟨y,h1,h2⟩ hi=>by
   obtain⟨hlt,_⟩:=par i d hi;rw[hcN]at h1;rw[hco]at h2;have:N.take ps.length=ps:=FS.pre;have hy:ps[i]? = some y:=by
    rw[<-this,List.getElem?_take,if_pos hlt];exact h1
   have:=List.any_eq_false.mp c2 y (List.mem_of_getElem? hy);exact this h2
  refine⟨⟨by simp[L2.start];lia,λi d hi=>?_,λa ha=>?_⟩,by simp[hcN];lia,qe.refl _,hB,(λa=>by simp),(λa ha=>by cases ha),(λi d ho hi=>(noOwn i d ho hi).elim),λi j d e a ho _ hi _ _ _=>(noOwn i d ho hi).elim,λz=>by rw[hcz]at z;cases z⟩
  ·obtain⟨hlt,hd⟩:=par i d hi;obtain⟨v,h1,h2⟩:=rv.get hd;have hlt':i<vs.length:=by lia
   refine⟨v,?_,.inl h2,λ_ _ _=>h2⟩;unfold L2.start;rw[List.getElem?_append_left (by simpa using hlt'),List.getElem?_map,h1]
   rfl
  ·refine hB a ?_;rcases ha with ha|ha
   ·exact .inl ha
   ·cases ha
 ·-- at the end
  cases q:qf w b (ds.map some++bD (N.length-ps.length) none)with
  |nx τ'=>
   rw[q]at h;simp only at h;cases fr with
   |true=>exact h.elim
   |false=>exact λσ' H' hs=>h .non H' hs .non (by intro z;cases z)
  |rt d=>rw[q]at h;exact h
  |ex z=>rw[q]at h;exact h
  |bk z=>rw[q]at h;exact h.elim
  |ct z=>rw[q]at h;exact h.elim
  |no=>rw[q]at h;exact h.elim
section
variable{p:Pr}{g:Gc}{G GH GU:List (Str×GK)}{mg:Str->Option ae}{P:av}{wl:au}{base:Heap}
theorem Ground.okU(T:Ground p g G GH GU mg):∀(k:Nat) (x:Str) (f:Addr) (st:Stmt) (own:List Str) (fr:Bool) (fd:bw) (fnn:Fn),p.fns x=some fnn->eS GU own fr st=some fnn->Fun g.K x x st f fd ->
  fw P wl g.K mg base (CX1 P wl) k f fd (argNames (qo st)) (spF (wAt p k) g x fr)
 | 0,x,f,st,own,fr,fd,fnn,_,_,_=>⟨λvs H Q E ⟨S,ds,_,_,h⟩=>h.elim,λA outer s H args us vs Q E _ _ _ _ ⟨S,ds,_,_,h⟩=>h.elim⟩
 |k+1,x,f,st,own,fr,fd,fnn,hf,hc,F=>by
  obtain⟨c1,c2,b,c3,rfl⟩:=yA hc;have FS:=kR c1;generalize hN:dg (qo st) (qk st)=N at *;generalize hps:argNames (qo st)=ps at *;have call:∀ds,qa p (k+1) x ds=zJ (wAt p k) ⟨ps.length,N.length,fr,b⟩ ds:=λds=>by simp only[qa,hf]
  have lenOf:∀vs H Q E,spF (wAt p (k+1)) g x fr vs H Q E->vs.length=ps.length:=λvs H Q E ⟨S,ds,_,r,h⟩=>by
   have h:tR g E H (qa p (k+1) x ds) _:=h;rw[call]at h;unfold zJ at h;by_cases hl:ds.length=ps.length
   ·rw[<-r.length];exact hl
   ·rw[if_neg hl]at h;exact h.elim
  obtain⟨oc,od,kV,doc,pm,an,cdv,ct,osl,rfl,lk,hcd⟩:=F.ex;refine vm lk hcd FS lenOf λA outer s H vs Q E hr hsp=>?_
  obtain⟨B,ds,hB,rv,h⟩:=hsp;have h:tR g E H (qa p (k+1) x ds) (λd=>∀v H',qe H H'->Rep g (hid H' B) d v->(fr=true->Fr g H B H' d v)->Q v H'):=h;rw[call]at h;unfold zJ at h;by_cases hl:ds.length=ps.length
  ·rw[if_pos hl]at h;have O:XS (wAt p k) g ⟨(qk st).names,N,own,GU,false,true,false,[],[],false⟩ E (et (CX1 P wl) P wl g.K mg base N x (qk st) f cdv A outer s H E):=
    ⟨⟨rfl,rfl,rfl,FS.nd,(λz=>by cases z),by have:=hr.un;show (A.deeper _).units+64<_;lia,by have:=hr.dp;show (A.deeper _).depth+5<_;lia,λ_ _=>rfl,FS.kind,xp,λy ky hy=>(T.gu y ky hy).2.2.gm (T.gu y ky hy).1,(λz=>by cases z),T.sub,T.fl⟩,(λz=>by cases z),λy C hy _=>absurd rfl (T.gu y .exc hy).2.1,T.cat,⟨rfl,rfl,rfl⟩,λy k z=>by cases z⟩
   exact lr rfl rfl rfl FS c2 c3 O hB rv hl h
  ·rw[if_neg hl]at h;exact h.elim
theorem Ground.ok(T:Ground p g G GH GU mg):∀(k:Nat) (x:Str) (f:Addr) (st:Stmt) (own:List Str) (fr:Bool) (fd:bw) (fnn:Fn),p.fns x=some fnn->cFn G GH own fr st=some fnn->Fun g.K x x st f fd ->
  dO P wl g.K mg base (CX1 P wl) k f fd (argNames (qo st)) (spF (wAt p k) g x fr)
 | 0,x,f,st,own,fr,fd,fnn,_,_,_=>⟨λvs H Q E ⟨S,ds,_,_,h⟩=>h.elim,λA outer s H args us vs Q E _ _ _ _ ⟨S,ds,_,_,h⟩=>h.elim⟩
 |k+1,x,f,st,own,fr,fd,fnn,hf,hc,F=>by
  obtain⟨c1,c2,b,c3,rfl⟩:=pW hc;have FS:=kR c1;generalize hN:dg (qo st) (qk st)=N at *;generalize hps:argNames (qo st)=ps at *;have call:∀ds,qa p (k+1) x ds=zJ (wAt p k) ⟨ps.length,N.length,fr,b⟩ ds:=λds=>by simp only[qa,hf]
  have lenOf:∀vs H Q E,spF (wAt p (k+1)) g x fr vs H Q E->vs.length=ps.length:=λvs H Q E ⟨S,ds,_,r,h⟩=>by
   have h:tR g E H (qa p (k+1) x ds) _:=h;rw[call]at h;unfold zJ at h;by_cases hl:ds.length=ps.length
   ·rw[<-r.length];exact hl
   ·rw[if_neg hl]at h;exact h.elim
  refine F.ok1 FS lenOf λcdv A outer s H vs Q E hr hsp=>?_
  obtain⟨B,ds,hB,rv,h⟩:=hsp;have h:tR g E H (qa p (k+1) x ds) (λd=>∀v H',qe H H'->Rep g (hid H' B) d v->(fr=true->Fr g H B H' d v)->Q v H'):=h;rw[call]at h;unfold zJ at h;by_cases hl:ds.length=ps.length
  ·rw[if_pos hl]at h
   -- the ground of the body
   have calls:∀y fy,g.fnA y=some fy->∃fry,G.lookup y=some (.fn fry)/\gq (wAt p k) g P wl mg base (A.deeper (envOfC x (qk st) s.heap.objs.size f cdv)) true y fy fry:=λy fy hy=>by
    obtain⟨sty,owny,fry,fdy,fny,z1,z2,z3,z4,z5,z6,z7⟩:=T.fn y fy hy;exact⟨fry,z7,z6,z5,k,fdy,_,z4,.inl ⟨rfl,Ground.ok T k y fy sty owny fry fdy fny z1 z2 z3,hr⟩⟩
   have O:XS (wAt p k) g ⟨(qk st).names,N,own,G,true,true,true,GH,[],false⟩ E (cU (CX1 P wl) P wl g.K mg base N x (qk st) f cdv A outer s H E):=by
    refine⟨⟨rfl,rfl,rfl,FS.nd,λ_=>rfl,hr.units,by have:=hr.dp;show (A.deeper _).depth+5<_;lia,λ_ _=>rfl,FS.kind,yg,λy ky hy=>?_,λ_ y fy hy=>?_,T.sub,T.fl⟩,λ_=>xo,λy C hy hC=>?_,T.cat,⟨rfl,rfl,rfl⟩,λy ky hy=>?_⟩
    ·have:=T.gl y ky hy;by_cases hf:∃fr,ky=.fn fr
     ·obtain⟨fr',rfl⟩:=hf;obtain⟨fy,h1⟩:=this;obtain⟨fry,h2,h3⟩:=calls y fy h1;have hy:G.lookup y=some (.fn fr'):=hy;rw[hy]at h2;cases h2;exact⟨fy,h1,h3⟩
     ·exact this.gm λfr z=>hf ⟨fr,z⟩
    ·obtain⟨fry,_,h3⟩:=calls y fy hy;exact⟨fry,h3⟩
    ·obtain⟨C',_,h2,h3⟩:=T.gl y .exc hy;rw[h2]at hC;cases hC;exact h3
    ·rcases T.gh y ky hy with z|⟨fr',fy,sty,owny,fdy,fny,rfl,z1,z2,z3,z4,z5,z6,z7⟩
     ·obtain⟨u1,u2,u3⟩:=T.gu y ky z;exact⟨u2,λv=>u3.gm u1⟩
     ·exact⟨by simp,λv=>⟨fy,z1,z7,z6,k,fdy,_,z5,.inr ⟨rfl,Ground.okU T k y fy sty owny fr' fdy fny z2 z3 z4,hr.mark v⟩⟩⟩
   exact lr rfl rfl rfl FS c2 c3 O hB rv hl h
  ·rw[if_neg hl]at h;exact h.elim
end
end EV
namespace WB
open PySem PySem.Spec PyProof.Rows L2
structure Dd(K:aq)(n:Str)(st:Stmt)(f:Addr):Prop where
 a:ao K ak n=some (some (.ref f))
 l:∃oc od an sl kV dc pm cd ct,K.lookup f=some ⟨oc,od,.func (bJ n n (qo st) (zB st) (qk st) .none kV dc pm an cd ct),sl⟩/\PySem.W.codeIn K cd n=true
 k:bT K (.ref f)=true
theorem zE{K:aq}{n:Str}{st:Stmt}{f:Addr}{od an:Option Addr}{sl:Array (Option ae)}{oc kV dc pm cd ct:ae}(a:ao K ak n=some (some (.ref f)))
  (l:K.lookup f=some ⟨oc,od,.func (bJ n n (qo st) (zB st) (qk st) .none kV dc pm an cd ct),sl⟩) (c:PySem.W.codeIn K cd n=true) (k:bT K (.ref f)=true):Dd K n st f:=
 ⟨a,⟨oc,od,an,sl,kV,dc,pm,cd,ct,l,c⟩,k⟩
theorem Dd.fn{K:aq}{n:Str}{st:Stmt}{f:Addr}(d:Dd K n st f):∃fd,Fun K n n st f fd:=by
 obtain⟨oc,od,an,sl,kV,dc,pm,cd,ct,l,c⟩:=d.l;exact⟨_,mh (st:=st) l c d.k⟩
theorem iU{K:aq}{C:Addr}{c:ae}{dd:Option Addr}{cd:PySem.ClassData}{sl:Array (Option ae)}(s1:PySem.W.findIn K (.ref C) "__getattribute__" = some (some (.builtin "BaseException.__getattribute__")))
  (s2:PySem.W.findIn K (.ref C) "__getattr__" = some none) (s3:PySem.W.findIn K (.ref C) "__class__" = some (some (.builtin "object.__class__"))) (s4:PySem.W.mroIn K C (.type "BaseException")=some true) (s5:PySem.W.mroIn K C (.type "object")=some true)
  (s6:K.lookup C=some ⟨c,dd,.cls cd,sl⟩):zD K C:=⟨s1,s2,s3,s4,s5,⟨c,dd,cd,sl,s6⟩⟩
theorem kN{K:aq}{C:Addr}:a_ K (.ref C) (.ref C)=some true:=by
 unfold a_;rw[if_pos (beq_self_eq_true _)]
theorem kQ{K:aq}{C:Addr}(s:ay K (.ref C) (.type "ValueError")=some true):a_ K (.ref C) (.type "ValueError")=some true:=by
 unfold a_;rw[if_neg (λz=>by have:=eq_of_beq z;cases this)];show (if PySem.W.kitMeta "ValueError" = true then ay K (.ref C) (.type "ValueError")else none)=_;rw[if_pos (by decide +kernel)];exact s
theorem mr{K:aq}{C D:Addr}{x:PySem.ClassData}(u:ay K (.ref D) (.type "BaseException")=some true)(c:PySem.W.clsIn K D=some x)(t:PySem.W.typeIn K (.ref D)=some (.type "type"))(s:ay K (.ref C) (.ref D)=some true) :
  bG K (.ref C) (.ref D)=some true:=by
 unfold bG;rw[u,if_pos (by decide)];show (if ((PySem.W.clsIn K D).isSome&&PySem.W.typeIn K (.ref D)==some (.type "type"))=true then ay K (.ref C) (.ref D)else none)=_;rw[c,t,if_pos (by rw[beq_self_eq_true];rfl)];exact s
theorem jU{us:List ae}(h:us.length=1):∃a,us=[a]:=List.length_eq_one_iff.mp h
theorem kM{n:Nat}{us:List ae}(h:us.length=n+1):∃a r,us=a::r/\r.length=n:=by
 cases us with
 |nil=>cases h
 |cons a r=>exact⟨a,r,rfl,Nat.succ.inj h⟩
theorem ki{us:List ae}(h:us.length=2):∃a b,us=[a,b]:=by
 obtain⟨a,r,e,h⟩:=kM h;obtain⟨b,q⟩:=jU h;subst q;exact⟨a,b,e⟩
theorem nN{us:List ae}(h:us.length=3):∃a b c,us=[a,b,c]:=by
 obtain⟨a,r,e,h⟩:=kM h;obtain⟨b,c,q⟩:=ki h;subst q;exact⟨a,b,c,e⟩
structure Dk(K:aq)(n:Str)(D:Addr):Prop where
 a:ao K ak n=some (some (.ref D))
 c:∃x,PySem.W.clsIn K D=some x
 t:PySem.W.typeIn K (.ref D)=some (.type "type")
theorem cA{K:aq}{n:Str}{D:Addr}{x:PySem.ClassData}(a:ao K ak n=some (some (.ref D)))(c:PySem.W.clsIn K D=some x)(t:PySem.W.typeIn K (.ref D)=some (.type "type")):Dk K n D:=⟨a,⟨x,c⟩,t⟩
theorem Dk.kit{K:aq}{n:Str}{C D:Addr}{b:Bool}(d:Dk K n D)(s:ay K (.ref C) (.ref D)=some b)(ne:C≠D):a_ K (.ref C) (.ref D)=some b:=by
 obtain⟨x,c⟩:=d.c;unfold a_;rw[if_neg (λz=>ne (by have:=eq_of_beq z;injection this))];show (if ((PySem.W.clsIn K D).isSome&&PySem.W.typeIn K (.ref D)==some (.type "type"))=true then ay K (.ref C) (.ref D)else none)=_;rw[c,d.t,if_pos (by rw[beq_self_eq_true];rfl)];exact s
end WB
namespace EV
open PySem PySem.Spec PySem.P PyProof.Rows L2
structure Ent where
 x:Str
 st:Stmt
 own:List Str
 fr:Bool
 fn:Fn
noncomputable def prT(tab:List Ent)(vals:List (Str×D))(cb:List (Str×Str))(subs:List ((Str×Cl)×Bool):=[])(zz:List (Str×List Str):=[]):Pr:=⟨λx=>(tab.find? (·.x==x)).map (·.fn),λx=>vals.lookup x,λk c=>subs.lookup (k,c),λk x=>cb.contains (k,x),λx=>zz.lookup x⟩
noncomputable def unx:GK->GK
 | .exc=>.exk
 | .exf=>.exk
 |k=>k
noncomputable def dt(oth:List (Str×GK)):List (Str×GK):=oth.map λy=>(y.1,unx y.2)
noncomputable def eA(us:List Ent)(oth:List (Str×GK)):List (Str×GK):=us.map (λe=>(e.x,GK.fn e.fr))++dt oth
theorem m9{x:Str}{k:GK}:∀{oth:List (Str×GK)},(dt oth).lookup x=some k->∃k0,oth.lookup x=some k0/\k=unx k0
 | [],h=>by cases h
 | (y,k1)::r,h=>by
  have h:List.lookup x ((y,unx k1)::dt r)=some k:=h;rw[aX]at h;split at h
  ·rename_i q;cases h;exact⟨k1,by rw[aX,q],rfl⟩
  ·rename_i q
   obtain⟨k0,h1,h2⟩:=m9 h;exact⟨k0,by rw[aX,q];exact h1,h2⟩
theorem jK{x:Str}{k:GK}{oth:List (Str×GK)}:∀{us:List Ent},(eA us oth).lookup x=some k->(∃e∈us,e.x=x/\k=.fn e.fr)\/(dt oth).lookup x=some k
 | [],h=>.inr h
 |a::r,h=>by
  have h:List.lookup x ((a.x,GK.fn a.fr)::eA r oth)=some k:=h;rw[aX]at h;split at h
  ·rename_i q;cases h;exact .inl ⟨a,aL,(eq_of_beq q).symm,rfl⟩
  ·rcases jK h with ⟨e,h1,h2⟩|h1
   ·exact .inl ⟨e,aI _ h1,h2⟩
   ·exact .inr h1
noncomputable def c0(K:aq)(ns:List Str)(x:Str):Option Addr:=if ns.contains x then (match ao K ak x with
 |some (some (.ref f))=>some f
 |_=>none)else none
noncomputable def gOf(K:aq)(fns cls:List Str):Gc:=⟨K,c0 K fns,c0 K cls⟩
theorem fg{K:aq}{ns:List Str}{x:Str}{f:Addr}(h:ao K ak x=some (some (.ref f)))(hx:ns.contains x=true):c0 K ns x=some f:=by
 unfold c0;rw[if_pos hx,h]
theorem gp{K:aq}{ns:List Str}{x:Str}{f:Addr}(h:c0 K ns x=some f):ns.contains x=true/\ao K ak x=some (some (.ref f)):=by
 unfold c0 at h;split at h
 ·rename_i hx
  split at h
  ·rename_i q;cases h;exact⟨hx,q⟩
  ·cases h
 ·cases h
noncomputable def Bnd(e:Ent):Prop:=∀(kV doc pm:ae) (an:Option Addr) (cdv ct:ae) (us:List ae),us.length=(argNames (qo e.st)).length->bindArgs (bJ e.x e.x (qo e.st) (zB e.st) (qk e.st) .none kV doc pm an cdv ct) ⟨us,[]⟩=pure ((argNames (qo e.st)).zip us)
structure fu(K:aq)(G:List (Str×GK))(e:Ent):Prop where
 dd:∃f,WB.Dd K e.x e.st f
 bnd:Bnd e
noncomputable def lN(K:aq)(vals:List (Str×D))(x:Str):GK->Prop
 | .fn _=>True
 | .val=>∃u v d,ao K ak x=some (some u)/\RelV v u/\vals.lookup x=some d/\∀g H,g.K=K->Rep g H d v
 | .bi b=>ao K ak x=some none/\x=b1N b/\∃id,b1V b=.builtin id
 | .rng=>ao K ak x=some none/\x = "range"
 | .enum=>ao K ak x=some none/\x = "enumerate"
 | .zip=>ao K ak x=some none/\x = "zip"
 | .isi=>ao K ak x=some none/\x = "isinstance"
 | .ty n b=>ao K ak x=some none/\bx x=some (.type n)/\(n∈["int","bool","str","list","tuple"]\/n = "ValueError")/\∀b',b=some b'->x=b1N b'/\b1V b'=.type n
 | .exc=>∃C,ao K ak x=some (some (.ref C))/\PySem.W.excIn K C cz "ValueError.__new__" = true
 | .exk=>∃C,ao K ak x=some (some (.ref C))
 | .exf=>∃C,ao K ak x=some (some (.ref C))
 | .set=>ao K ak x=some none/\bx x=some (.type "set")
noncomputable def jY(K:aq)(y:Str×List Str):Prop:=∃C fI,ao K ak y.1=some (some (.ref C))/\cj K C fI y.2/\dD K fI y.2/\y.2.length<=100/\y.2≠[]
noncomputable def lP(K:aq)(cls:List Str)(y:(Str×Cl)×Bool):Prop:=∃C cv,cls.contains y.1.1=true/\ao K ak y.1.1=some (some (.ref C))/\zD K C/\a_ K (.ref C) cv=some y.2/\match y.1.2 with
 | .ty n=>n = "ValueError"/\cv=.type n
 | .ex x=>∃D,cls.contains x=true/\ao K ak x=some (some (.ref D))/\cv=.ref D
theorem jG{α β:Type} [BEq α] [LawfulBEq α]{a:α}{b:β}:∀{l:List (α×β)},l.lookup a=some b->(a,b)∈l
 | (c,d)::r,h=>by
  rw[aX]at h;split at h
  ·rename_i q;cases h;rw[eq_of_beq q];exact aL
  ·exact aI _ (jG h)
theorem nD{tab:List Ent}{e:Ent}(hn:(tab.map (·.x)).Nodup)(he:e∈tab):tab.find? (·.x==e.x)=some e:=by
 induction tab with
 |nil=>simp at he
 |cons a r ih=>
  simp only[bt,List.nodup_cons]at hn;rw[List.find?_cons];rcases aG.mp he with rfl|h
  ·simp
  ·have:(a.x==e.x)=false:=by
    cases q:a.x==e.x with
    |false=>rfl
    |true=>
     have:=eq_of_beq q;exact absurd (this▸bj.mpr ⟨e,h,rfl⟩) hn.1
   rw[this];exact ih hn.2 h
theorem vj{K:aq}{h:Heap}{mg:Str->Option ae}(X:K.In h)(N:h.Ns ak mg){tab:List Ent}{oth G:List (Str×GK)}{vals:List (Str×D)}(hG:G=tab.map (λe=>(e.x,GK.fn e.fr))++oth)
  (hnd:(tab.map (·.x)).Nodup) (ho:∀x k,oth.lookup x=some k->lN K vals x k) (hof:∀x fr,oth.lookup x≠some (.fn fr)) {us:List Ent} (hus:∀e∈us,e∈tab) (hcu:∀e∈us,eS (dt oth) e.own e.fr e.st=some e.fn) (hc:∀e∈tab,cFn G (eA us oth) e.own e.fr e.st=some e.fn) (he:∀e∈tab,fu K G e) (cls:List Str) {cb:List (Str×Str)} (hcat:∀y∈cb,∃C D,ao K ak y.1=some (some (.ref C))/\ao K ak y.2=some (some (.ref D))/\bG K (.ref C) (.ref D)=some true) (hcl:∀x,(oth.lookup x=some .exc\/oth.lookup x=some .exk\/oth.lookup x=some .exf)->cls.contains x=true)
  {subs:List ((Str×Cl)×Bool)} (hsub:∀y∈subs,lP K cls y) {zz:List (Str×List Str)} (hfl:∀y∈zz,jY K y) :
  Ground (prT tab vals cb subs zz) (gOf K (tab.map (·.x)) cls) G (eA us oth) (dt oth) mg:=by
 have lk:∀x k,G.lookup x=some k->(∃e∈tab,e.x=x/\k=.fn e.fr)\/oth.lookup x=some k:=by
  subst hG;clear hnd hc he hus
  induction tab with
  |nil=>intro x k hx;exact .inr hx
  |cons a r ih=>
   intro x k hx;simp only[bt,List.cons_append,aX]at hx;split at hx
   ·rename_i q;cases hx;exact .inl ⟨a,aL,(eq_of_beq q).symm,rfl⟩
   ·rcases ih x k hx with ⟨e,h1,h2⟩|h1
    ·exact .inl ⟨e,aI _ h1,h2⟩
    ·exact .inr h1
 have lkE:∀e∈tab,G.lookup e.x=some (.fn e.fr):=by
  subst hG;clear hc he lk hus
  induction tab with
  |nil=>intro e h;simp at h
  |cons a r ih=>
   intro e hm;simp only[bt,List.nodup_cons]at hnd;simp only[bt,List.cons_append,aX];rcases aG.mp hm with rfl|hm
   ·rw[beq_self_eq_true]
   ·have:(e.x==a.x)=false:=by
     cases q:e.x==a.x with
     |false=>rfl
     |true=>exact absurd ((eq_of_beq q)▸bj.mpr ⟨e,hm,rfl⟩) hnd.1
    rw[this];exact ih hnd.2 e hm
 have hca:∀k x,cb.contains (k,x)=true->∀C D,c0 K cls k=some C->c0 K cls x=some D->bG K (.ref C) (.ref D)=some true:=λk x z C D h1 h2=>by
  obtain⟨C',D',e1,e2,e3⟩:=hcat (k,x) (by simpa using z);have a1:=(gp h1).2;have a2:=(gp h2).2;rw[e1]at a1;rw[e2]at a2;cases a1;cases a2;exact e3
 have fnd:∀e∈tab,∃f fd,c0 K (tab.map (·.x)) e.x=some f/\Fun K e.x e.x e.st f fd/\Binds K fd (argNames (qo e.st)) []/\bT K (.ref f)=true/\mg e.x=some (.ref f):=λe hm=>by
  obtain⟨⟨f',d⟩,hb⟩:=he e hm;obtain⟨fd,F⟩:=d.fn;exact⟨f',fd,fg d.a (by simpa using bj.mpr ⟨e,hm,rfl⟩),F,F.binds hb,d.k,PySem.W.mg_of X N d.a⟩
 have fne:∀e∈tab,(prT tab vals cb subs zz).fns e.x=some e.fn:=λe hm=>by show (tab.find? (·.x==e.x)).map (·.fn)=_;rw[nD hnd hm];rfl
 have gl:∀x k,oth.lookup x=some k->GM0 (prT tab vals cb subs zz) (gOf K (tab.map (·.x)) cls) mg x k:=λx k hk=>by
  have:=ho x k hk;cases k with
  |fn fr=>exact absurd hk (hof x fr)
  |val=>obtain⟨u,v,d,h1,h2,h3,h4⟩:=this;exact⟨u,v,d,PySem.W.mg_of X N h1,h2,h3,λH=>h4 _ H rfl⟩
  |bi b=>exact⟨cK X N this.1,this.2⟩
  |rng=>exact⟨cK X N this.1,this.2⟩
  |enum=>exact⟨cK X N this.1,this.2⟩
  |zip=>exact⟨cK X N this.1,this.2⟩
  |isi=>exact⟨cK X N this.1,this.2⟩
  |ty n b=>exact⟨cK X N this.1,this.2⟩
  |exc=>obtain⟨C,h1,h2⟩:=this;exact⟨C,PySem.W.mg_of X N h1,fg h1 (hcl x (.inl hk)),h2⟩
  |exk=>obtain⟨C,h1⟩:=this;exact⟨C,PySem.W.mg_of X N h1,fg h1 (hcl x (.inr (.inl hk)))⟩
  |exf=>obtain⟨C,h1⟩:=this;exact⟨C,PySem.W.mg_of X N h1,fg h1 (hcl x (.inr (.inr hk)))⟩
  |set=>exact⟨cK X N this.1,this.2⟩
 refine⟨λx f hf=>?_,λx k hx=>?_,λx k hx=>?_,λx k hx=>?_,λk cl b z=>?_,hca,λx fs z C hC=>?_⟩
 ·obtain⟨h1,h2⟩:=gp hf;obtain⟨e,hm,rfl⟩:=bj.mp (by simpa using h1:x∈tab.map (·.x));obtain⟨f',fd,z1,z2,z3,z4,z5⟩:=fnd e hm;have hf:c0 K (tab.map (·.x)) e.x=some f:=hf;rw[hf]at z1;cases z1;exact⟨e.st,e.own,e.fr,fd,e.fn,fne e hm,hc e hm,z2,z3,z4,z5,lkE e hm⟩
 ·rcases lk x k hx with ⟨e,hm,rfl,rfl⟩|hk
  ·obtain⟨f',fd,z1,_⟩:=fnd e hm;exact⟨f',z1⟩
  ·exact gl x k hk
 ·obtain⟨k0,h1,rfl⟩:=m9 hx;have:=gl x k0 h1;cases k0 with
  |fn fr=>exact absurd h1 (hof x fr)
  |exc=>obtain⟨C,z1,z2,_⟩:=this;exact⟨by simp[unx],by simp[unx],⟨C,z1,z2⟩⟩
  |_=>exact⟨by simp[unx],by simp[unx],this⟩
 ·rcases jK hx with ⟨e,hm,rfl,rfl⟩|hk
  ·obtain⟨f',fd,z1,z2,z3,z4,z5⟩:=fnd e (hus e hm);exact .inr ⟨e.fr,f',e.st,e.own,fd,e.fn,rfl,z1,fne e (hus e hm),hcu e hm,z2,z3,z4,z5⟩
  ·exact .inl hk
 ·have z:subs.lookup (k,cl)=some b:=z;obtain⟨C,cv,h0,h1,h2,h3,h4⟩:=hsub _ (jG z);refine⟨C,cv,fg h1 h0,h2,h3,?_⟩;cases cl with
  |ty n=>exact h4
  |ex x=>obtain⟨D,d0,d1,d2⟩:=h4;exact⟨D,fg d1 d0,d2⟩
 ·obtain⟨C',fI,h1,h2⟩:=hfl _ (jG (show zz.lookup x=some fs from z));have:=(gp hC).2;rw[h1]at this;cases this;exact⟨fI,h2⟩
theorem tN{l:PySem.W.OpenLaw}{q:av}{loose:List Str}{XP:(Str->Option ae)->Heap->Prop}{YP:au->Heap->Prop}{d:DefRec}{K:Params->aq}{tab:List Ent}{G:List (Str×GK)}{vals:List (Str×D)}{cls:List Str}{cb:List (Str×Str)}{subs:List ((Str×Cl)×Bool)}{zz:List (Str×List Str)}{GH GU:List (Str×GK)}{e:Ent}{k:Nat}
  (hn:l.most=some 63) (hdf:d.params.defaults=[]) (hd:d.name=e.x) (hr:bP k callerA) (hY:∀(w:au) (h:Heap),YP w h->(K w.params).In h) (hm:e∈tab) (hnd:(tab.map (·.x)).Nodup) (hx:e.x = "law") (hfr:e.fr=false) (hp:argNames (qo e.st)=[("_law_script" : Str)])
  (hG:∀(w:au) (mg:Str->Option ae) (h:Heap),(K w.params).In h->h.Ns ak mg->Ground (prT tab vals cb subs zz) (gOf (K w.params) (tab.map (·.x)) cls) G GH GU mg/\fu (K w.params) G e) (hc:cFn G GH e.own e.fr e.st=some e.fn)
  (hlaw:∀ns:List Int,ns.length<=63->qa (prT tab vals cb subs zz) k "law" [.lst (ns.map D.int)]=.ok (.bl true)) :
  PySem.W.WalkO q loose XP YP l.row.toRowW d [] (λf vs=>PySem.call f vs):=by
 refine L2.xg (n:=63) (k:=k) (x:="_law_script") (CX:=λw=>CX1 l.prog w) (sp:=λw=>spF (wAt (prT tab vals cb subs zz) k) (gOf (K w.params) (tab.map (·.x)) cls) "law" false) hn (by decide) hdf hr hY (λw mg fa h KX N hfa=>?_) (λw H a ns hl _ hS=>?_) λw H s e s' z=>?_
 ·obtain⟨T,⟨f,dd⟩,hb⟩:=hG w mg h KX N;have e1:=hfa.symm.trans (hd▸PySem.W.mg_of KX N dd.a);cases e1;obtain⟨oc,od,an,sl,kV,dc,pm,cd,ct,lk,hcd⟩:=dd.l;refine⟨bJ e.x e.x (qo e.st) (zB e.st) (qk e.st) .none kV dc pm an cd ct,λs u=>.of_eq ?_,λbase _ _=>?_⟩
  ·have:=hb kV dc pm an cd ct [u] (by rw[hp];rfl);rw[hp]at this;exact this
  ·have:=T.ok (P:=l.prog) (wl:=w) (base:=base) k e.x fa e.st e.own e.fr _ e.fn (by show (tab.find? (·.x==e.x)).map (·.fn)=_;rw[nD hnd hm];rfl) hc (mh (st:=e.st) lk hcd dd.k);rw[hp,hx,hfr]at this;rw[hx];exact this
 ·refine⟨⟨λ_=>false,λ_=>false,[],λ_=>none⟩,[.lst (ns.map D.int)],(λa z=>by rcases z with z|z<;>cases z),.cons (.lst (xs:=ns.map V.int) ?_ (qt.ofInts _)) .nil,?_⟩
  ·have:hid H ⟨λ_=>false,λ_=>false,[],λ_=>none⟩=H:=by funext b;unfold hid;rw[if_neg (by simp)]
   rw[this];exact hS
  ·show tR _ _ _ (qa (prT tab vals cb subs zz) k "law" [.lst (ns.map D.int)]) _;rw[hlaw ns hl];intro v H' _ r _;cases r;rfl
 ·obtain⟨_,_,_,_,_,_,_,_,_,_,z⟩:=z;exact z
end EV
namespace L2
open PySem PySem.Spec PySem.W PyProof.Rows
noncomputable def uc(st:Stmt)(i:Nat):Stmt:=match st with
 | .ClassDef (body:=b) .. => b.getD i (.Pass ⟨0,0,0,0⟩)
 |_=>.Pass ⟨0,0,0,0⟩
noncomputable def km(self:Str)(fs:List Str)(st:Stmt):Bool:=(qk st).kind==.function && !(qk st).isCoroutine && !(qk st).isGenerator&&(self::fs).all (λf=>(qk st).names.lookup f==some .local)&&shp self fs (zB st)&&decide (self::fs).Nodup && !(self==("__debug__" : Str))
section
variable{K:Frag}{C fI Ap N:Addr}{fs:List Str}{nm q:Str}{bs sub:List ae}{sn:List Str}{ab:Bool}{col:Option Bool}{dd od an:Option Addr}{k0 k1 k2 k3 k5:Option ae}{st:Stmt}{self:Str}{kV dc pm cd ct:ae}{sl:Array (Option ae)}{f g:Str}
theorem oM(see:zD K C)(l:K.lookup C=some (excClassObj nm q C N bs (.ref Ap::cz) true sn sub ab col dd k0 k1 k2 k3 k5 "ValueError.__new__"))(x:excIn K Ap cz "ValueError.__new__" = true)(i:findIn K (.ref C) "__init__" = some (some (.ref fI)))
  (s:findIn K (.ref C) "__setattr__" = some (some (.builtin "object.__setattr__"))) (h:∀f∈fs,findIn K (.ref C) f=some none):cj K C fI fs:=⟨see,⟨_,_,_,_,_,_,_,_,_,_,_,_,_,_,_,l,x⟩,i,s,h⟩
theorem pf(h:findIn K (.ref C) f=some none)(h':findIn K (.ref C) g=some none):∀y∈[f,g],findIn K (.ref C) y=some none:=λy hy=>by
 have:y=f\/y=g:=by simpa using hy
 rcases this with rfl|rfl<;>assumption
theorem yZ(lk:K.lookup fI=some ⟨.type "function",od,.func (fnOf nm q (qo st) (zB st) (qk st) .none kV dc pm an cd ct),sl⟩)(hcd:codeIn K cd q=true)(ck:km self fs st=true)
  (hb:∀us:List ae,us.length=fs.length+1->bindArgs (fnOf nm q (qo st) (zB st) (qk st) .none kV dc pm an cd ct) ⟨us,[]⟩=pure ((self::fs).zip us)):dD K fI fs:=by
 unfold km at ck;simp only[aJ,beq_iff_eq,bH,decide_eq_true_eq,List.all_eq_true]at ck;obtain⟨⟨⟨⟨⟨⟨c1,c2⟩,c3⟩,c4⟩,c5⟩,c6⟩,c7⟩:=ck;exact⟨self,nm,q,_,_,_,kV,dc,pm,an,cd,ct,od,sl,lk,hcd,⟨c1,c2,c3,c4⟩,c5,c6,c7,hb⟩
end
end L2
namespace KG
open EV
open PySem (Str)
open L2 (atI ixN ltP)
abbrev prD:Int×Int->D:=EV.pairD
theorem qp{w:W}{f:Fn}{ds:List D}{d:D}{τ:Env}(hl:ds.length=f.ps)(hτ:ds.map some++bD (f.N-f.ps) none=τ)(h:qf w f.body τ=.rt d):zJ w f ds=.ok d:=by
 rw[zJ,if_pos hl,hτ,h]
theorem zf{w:W}{s:S}{r:Ss}{τ σ:Env}{o:O}(h:evS w s τ=.nx σ)(h':qf w r σ=o):qf w (.cons s r) τ=o:=by rw[qf,h];exact h'
theorem mK{w:W}{tg:Tg}{it:It}{b r:Ss}{τ:Env}{o:O}{ds:List D}(I:List D->Env->Prop)(h:evI w it τ=.ok ds)(h0:I ds τ)
  (hs:∀x t σ,I (x::t) σ->∃σ1 σ2,store tg x σ=.ok σ1/\qf w b σ1=.nx σ2/\I t σ2) (hn:∀σ,I [] σ->qf w r σ=o):qf w (.cons (.for tg it b) r) τ=o:=by
 have key:∀(l:List D) (σ:Env),I l σ->∃σ',cf tg (λσ=>qf w b σ) l σ=.nx σ'/\I [] σ':=by
  intro l
  induction l with
  |nil=>intro σ q;exact⟨σ,rfl,q⟩
  |cons x t ih=>
   intro σ q;obtain⟨σ1,σ2,a,b',c⟩:=hs x t σ q;obtain⟨σ',d,e⟩:=ih σ2 c;exact⟨σ',by rw[cf,a];simp only[R.out_ok];rw[b'];exact d,e⟩
 obtain⟨σ',a,b'⟩:=key ds τ h0;rw[qf,zV,h];simp only[R.out_ok];rw[a];exact hn σ' b'
theorem gI{w:W}{it:It}{cap:List (Option Nat)}{t:T}{elt:E}{τ c:Env}{ds:List D}{g:D->List D}(h:evI w it τ=.ok ds)(hz:ds.length<=SZ)(hc:cP cap τ=none::none::c)
  (hb:∀x∈ds,((evT w t (none::some x::c)).bind λr=>if r then (evE w elt (none::some x::c)).bind λd=>.ok [d]else .ok [])=.ok (g x)):evE w (.comp it cap (.nm 1) t elt) τ=.ok (.lst (ds.flatMap g)):=by
 have key:∀(l:List D) (v:Option D) (acc:List D),(∀x∈l,x∈ds)->zK (λx σ=>noEx ((store (.nm 1) x σ).bind λσ'=>(evT w t σ').bind λr=>if r then (evE w elt σ').bind λd=>.ok (σ',[d])else .ok (σ',[]))) l (none::v::c) acc=.ok (acc++l.flatMap g):=by
  intro l
  induction l with
  |nil=>intro v acc _;simp[zK]
  |cons x r ih=>
   intro v acc hm;have q:=hb x (hm x aL);rw[zK];have e:noEx ((store (.nm 1) x (none::v::c)).bind λσ'=>(evT w t σ').bind λr=>if r then (evE w elt σ').bind λd=>.ok (σ',[d])else .ok (σ',[]))=.ok (none::some x::c,g x):=by
    simp only[store,R.bind_ok,List.set_cons_succ,List.set_cons_zero];cases ht:evT w t (none::some x::c)with
    |ok b=>
     rw[ht]at q;simp only[R.bind_ok]at q ⊢;cases b
     ·simp at q ⊢;rw[<-q];rfl
     ·simp only[if_true]at q ⊢;cases he:evE w elt (none::some x::c)with
      |ok d=>rw[he]at q;simp only[R.bind_ok,R.ok.injEq]at q ⊢;rw[<-q];rfl
      |ex=>rw[he]at q;cases q
      |no=>rw[he]at q;cases q
    |ex=>rw[ht]at q;cases q
    |no=>rw[ht]at q;cases q
   rw[e];simp only[R.bind_ok];rw[ih (some x) _ λy hy=>hm y (aI _ hy),List.flatMap_cons,List.append_assoc]
 rw[qr,h];simp only[R.bind_ok];rw[if_neg (by lia),hc,key ds none [] λ_ h=>h]
 rfl
theorem comp2{w:W}{it:It}{cap:List (Option Nat)}{t:T}{elt:E}{τ c:Env}{ds:List D}{g:D->List D}(h:evI w it τ=.ok ds)(hz:ds.length<=SZ)(hc:cP cap τ=none::none::none::c)
  (hb:∀x∈ds,∃a b,x=.tup [a,b]/\((evT w t (none::some a::some b::c)).bind λr=>if r then (evE w elt (none::some a::some b::c)).bind λd=>.ok [d]else .ok [])=.ok (g x)):evE w (.comp it cap (.tp [1,2]) t elt) τ=.ok (.lst (ds.flatMap g)):=by
 have key:∀(l:List D) (v u:Option D) (acc:List D),(∀x∈l,x∈ds)->zK (λx σ=>noEx ((store (.tp [1,2]) x σ).bind λσ'=>(evT w t σ').bind λr=>if r then (evE w elt σ').bind λd=>.ok (σ',[d])else .ok (σ',[]))) l (none::v::u::c) acc=.ok (acc++l.flatMap g):=by
  intro l
  induction l with
  |nil=>intro v u acc _;simp[zK]
  |cons x r ih=>
   intro v u acc hm;obtain⟨a,b,rfl,q⟩:=hb x (hm x aL);rw[zK];have e:noEx ((store (.tp [1,2]) (.tup [a,b]) (none::v::u::c)).bind λσ'=>(evT w t σ').bind λr=>if r then (evE w elt σ').bind λd=>.ok (σ',[d])else .ok (σ',[]))=.ok (none::some a::some b::c,g (.tup [a,b])):=by
    simp only[store,setAll,cq,List.length_nil,if_true,R.bind_ok,List.set_cons_succ,List.set_cons_zero];cases ht:evT w t (none::some a::some b::c)with
    |ok b'=>
     rw[ht]at q;simp only[R.bind_ok]at q ⊢;cases b'
     ·simp at q ⊢;rw[q];rfl
     ·simp only[if_true]at q ⊢;cases he:evE w elt (none::some a::some b::c)with
      |ok d=>rw[he]at q;simp only[R.bind_ok,R.ok.injEq]at q ⊢;rw[<-q];rfl
      |ex=>rw[he]at q;cases q
      |no=>rw[he]at q;cases q
    |ex=>rw[ht]at q;cases q
    |no=>rw[ht]at q;cases q
   rw[e];simp only[R.bind_ok];rw[ih (some a) (some b) _ λy hy=>hm y (aI _ hy),List.flatMap_cons,List.append_assoc]
 rw[qr,h];simp only[R.bind_ok];rw[if_neg (by lia),hc,key ds none none [] λ_ h=>h]
 rfl
theorem sH{w:W}{i:Int}:zM w (.int i) (.ty "int")=.ok (.bl true):=rfl
theorem vX{w:W}{i:Int}:zM w (.int i) (.ty "bool")=.ok (.bl false):=rfl
theorem pH{w:W}{i:List D}:zM w (.tup i) (.ty "tuple")=.ok (.bl true):=rfl
theorem x_{w:W}{i:List D}:zM w (.tup i) (.ty "bool")=.ok (.bl false)/\zM w (.tup i) (.ty "int")=.ok (.bl false)/\zM w (.tup i) (.ty "str")=.ok (.bl false)/\zM w (.tup i) (.ty "list")=.ok (.bl false):=⟨rfl,rfl,rfl,rfl⟩
theorem yb{w:W}{i:Bool}:zM w (.bl i) (.ty "bool")=.ok (.bl true):=rfl
theorem yT(t:Int×Int):(prD t).asks=true:=rfl
noncomputable def mn(a b:Int):Int:=if b<a then b else a
noncomputable def mx(a b:Int):Int:=if a<b then b else a
noncomputable def fN(ts:List (Int×Int))(a b:Int):Bool:=ts.any λt=>t.1==mn a b&&t.2==mx a b
theorem AE(ts:List (Int×Int))(u v:Int):ql .isin (.tup [.int u,.int v]) (.tup (ts.map prD))=.ok (ts.any λt=>t.1==u&&t.2==v):=by
 rw[ql];simp only[seq?];rw[if_pos (by simp only[aJ,List.all_eq_true,bj];exact⟨rfl,λx ⟨t,_,e⟩=>e▸yT t⟩),inD,List.any_map]
 congr 2;funext t;show ((t.1==u)&&((t.2==v)&&true))=_;rw[Bool.and_true]
structure GW(m:Int)(ts:List (Int×Int)):Prop where
 lo:1<=m
 hi:m<=8
 lt:ts.Pairwise λs t=>ltP s t=true
 ok:∀t∈ts,0<=t.1/\t.1<t.2/\t.2<m
 len:ts.length<=28
structure GS(m:Int)(s:List Int):Prop where
 lt:s.Pairwise (· < ·)
 ok:∀i∈s,0<=i/\i<m
 len:s.length<=8
abbrev wb(m:Int)(ts:List (Int×Int)):D:=.tup [.int m,.tup (ts.map prD)]
abbrev tu(s:List Int):D:=.tup (s.map D.int)
theorem fH{xs:List D}{i:Nat}(h:i<xs.length):atI xs (i:Int)=some xs[i]:=by
 rw[atI,ixN,if_pos (by lia),if_pos (by lia)];simp[h]
theorem all_true(xs:List D):bools? (xs.flatMap λ_=>[.bl true])=some (bD xs.length true):=by
 induction xs with
 |nil=>rfl
 |cons x r ih=>show (bools? (r.flatMap λ_=>[.bl true])).map (true :: ·)=_;rw[ih];rfl
theorem yL(n:Nat):(bD n true).all id=true:=by simp
theorem yY{s t:Int×Int}(h:ltP s t=true):ql .lt (prD s) (prD t)=.ok true:=by
 show R.ok (dr [s.1,s.2] [t.1,t.2])=_;rw[ltP]at h;simp only[dr];by_cases e:s.1=t.1
 ·rw[if_pos e]at h ⊢;by_cases e2:s.2=t.2
  ·rw[e2]at h;simp at h
  ·rw[if_neg e2,h]
 ·rw[if_neg e]at h ⊢;rw[h]
noncomputable def rng(m:Int):List Int:=(aV m.toNat).map λ(i:Nat)=>(i:Int)
theorem gx(m:Int):zC 0 m.toNat=(rng m).map D.int:=by
 rw[zC,rng,List.map_map];simp
theorem iG(m:Int):(rng m).length=m.toNat:=by simp[rng]
theorem uQ(c:Int->Bool)(ns:List Int):(ns.map D.int).flatMap (λx=>match x with | .int i=>if c i then [D.int i]else []|_=>[])=(ns.filter c).map D.int:=by
 induction ns with
 |nil=>rfl
 |cons a r ih=>
  rw[bt,List.flatMap_cons,ih,List.filter_cons];show (if c a=true then [D.int a]else [])++_=_;cases c a<;>rfl
theorem rN(x y:Int)(h:0<y)(h':y<=2^64):small (x%y)=true:=by
 have a:=Int.emod_nonneg x (show y≠0 by lia);have b:=Int.emod_lt_of_pos x h;simp only[small,aJ,decide_eq_true_eq];lia
noncomputable def st(c j:Int):Int:=
 ((((c%2147483647+977 * j+1) * 48271%2147483647) * ((c%2147483647+977 * j+1) * 48271%2147483647)%2147483629+40692 * (j+3)) * 69621%2147483647)/8
theorem GW.sub{m:Int}{ts ps:List (Int×Int)}(h:GW m ps)(s:ts.Sublist ps):GW m ts:=
 ⟨h.lo,h.hi,h.lt.sublist s,λt ht=>h.ok t (s.subset ht),aZ s.length_le h.len⟩
theorem eq_int(a b:Int):ql .eq (.int a) (.int b)=.ok (decide (a=b)):=by
 show R.ok (a==b)=_;congr 1
theorem lt_int(a b:Int):ql .lt (.int a) (.int b)=.ok (decide (a<b)):=rfl
theorem uF{w:W}{tg:Tg}{it:It}{b r:Ss}{τ:Env}{ds:List D}(I:List D->Env->Prop)(h:evI w it τ=.ok ds)(h0:I ds τ)
  (hs:∀x t σ,I (x::t) σ->∃σ1 σ2,store tg x σ=.ok σ1/\qf w b σ1=.nx σ2/\I t σ2):∃σ,I [] σ/\qf w (.cons (.for tg it b) r) τ=qf w r σ:=by
 have key:∀(l:List D) (σ:Env),I l σ->∃σ',cf tg (λσ=>qf w b σ) l σ=.nx σ'/\I [] σ':=by
  intro l
  induction l with
  |nil=>intro σ q;exact⟨σ,rfl,q⟩
  |cons x t ih=>
   intro σ q;obtain⟨σ1,σ2,a,b',c⟩:=hs x t σ q;obtain⟨σ',d,e⟩:=ih σ2 c;exact⟨σ',by rw[cf,a];simp only[R.out_ok];rw[b'];exact d,e⟩
 obtain⟨σ',a,b'⟩:=key ds τ h0;refine⟨σ',b',?_⟩;rw[qf,zV,h];simp only[R.out_ok];rw[a]
 rfl
noncomputable instance (m:Int) (ts:List (Int×Int)):Decidable (GW m ts):=
 decidable_of_iff (1<=m/\m<=8/\ts.Pairwise (λs t=>ltP s t=true)/\(∀t∈ts,0<=t.1/\t.1<t.2/\t.2<m)/\ts.length<=28) ⟨λ⟨a,b,c,d,e⟩=>⟨a,b,c,d,e⟩,λ⟨a,b,c,d,e⟩=>⟨a,b,c,d,e⟩⟩
noncomputable def Ends(J:Env->Prop)(Q:D->Prop):O->Prop
 | .nx σ=>J σ
 | .rt d=>Q d
 |_=>False
section
variable{w:W}{J K:Env->Prop}{Q:D->Prop}{s:S}{r:Ss}{τ σ:Env}
theorem mY(h:J τ):Ends J Q (qf w .nil τ):=by rw[qf];exact h
theorem er(h:evS w s τ=.nx σ)(h':Ends J Q (qf w r σ)):Ends J Q (qf w (.cons s r) τ):=by rw[qf,h];exact h'
theorem xT(h:Ends K Q (evS w s τ))(h':∀σ,K σ->Ends J Q (qf w r σ)):Ends J Q (qf w (.cons s r) τ):=by
 rw[qf];cases q:evS w s τ with
 |nx σ=>rw[q]at h;exact h' σ h
 |rt d=>rw[q]at h;exact h
 |_=>rw[q]at h;exact h.elim
theorem yF{e:E}{d:D}(h:evE w e τ=.ok d)(hq:Q d):Ends J Q (qf w (.cons (.ret e) r) τ):=by
 rw[qf,zF,h];exact hq
theorem l9{tg:Tg}{it:It}{b:Ss}{ds:List D}(I:List D->Env->Prop)(h:evI w it τ=.ok ds)(h0:I ds τ)(hs:∀x t σ,I (x::t) σ->∃σ1,store tg x σ=.ok σ1/\Ends (I t) Q (qf w b σ1))(hn:∀σ,I [] σ->Ends J Q (qf w r σ)):Ends J Q (qf w (.cons (.for tg it b) r) τ):=by
 have key:∀(l:List D) (σ:Env),I l σ->Ends (I []) Q (cf tg (λσ=>qf w b σ) l σ):=by
  intro l
  induction l with
  |nil=>intro σ q;exact q
  |cons x t ih=>
   intro σ q;obtain⟨σ1,a,b'⟩:=hs x t σ q;rw[cf,a];simp only[R.out_ok];cases z:qf w b σ1 with
   |nx σ2=>rw[z]at b';exact ih σ2 b'
   |rt d=>rw[z]at b';exact b'
   |_=>rw[z]at b';exact b'.elim
 have hk:=key ds τ h0;refine xT (K:=I []) ?_ hn;rw[zV,h];simp only[R.out_ok];cases z:cf tg (λσ=>qf w b σ) ds τ with
 |nx σ2=>rw[z]at hk;exact hk
 |rt d=>rw[z]at hk;exact hk
 |_=>rw[z]at hk;exact hk.elim
end
theorem nU:∀ts:List (Int×Int),pairs? (ts.map prD)=some ts
 | []=>rfl
 |t::r=>by show (pairs? (r.map prD)).map (t :: ·)=_;rw[nU r];rfl
theorem xD(xs:List D):b1 .sorted [.lst xs]=(if xs.length<64 then (match ints? xs with
  |some ns=>.ok (.lst ((sortI ns).map D.int))
  |none=>match pairs? xs with
   |some ps=>.ok (.lst ((zl ps).map pairD))
   |none=>dk xs)else dk xs):=rfl
theorem nR(ts:List (Int×Int))(h:ts.length<64):b1 .sorted [.lst (ts.map prD)]=.ok (.lst ((zl ts).map prD)):=by
 rw[xD,if_pos (by simpa using h)];cases ts with
 |nil=>rfl
 |cons t r=>
  have e:ints? ((t::r).map prD)=none:=rfl;rw[e];simp only;rw[nU]
noncomputable def hd(m:Int)(ts:List (Int×Int))(a:Int):List Int:=(rng m).filter λb=>b==a||fN ts a b
end KG
noncomputable def KG.Z:=ar @EV.qf.eq_1 (ar @EV.qf.eq_2 (ar @EV.b4 (ar @EV.bY (ar @EV.b7 (ar @EV.zF (ar @EV.bX (ar @EV.b6 (ar @EV.zH (ar @EV.qX (ar @EV.zb (ar @EV.qY (ar @EV.qU (ar @EV.qV (ar @EV.qW (ar @EV.qZ (ar @EV.qw (ar @EV.qD (ar @EV.qH (ar @EV.qB (ar @EV.qE (ar @EV.qA (ar @EV.qC (ar @EV.qq (ar @EV.qx (ar @EV.qz (ar @EV.qs (ar @EV.qF (ar @EV.qG (ar @EV.zo.eq_1 (ar @EV.zo.eq_2 (ar @EV.dE (ar @EV.dF (ar @EV.dU (ar @EV.dM (ar @EV.dP (ar @EV.dQ (ar @EV.dH (ar @EV.evI.eq_1 (ar @EV.evI.eq_2 (ar @EV.evI.eq_3 (ar @EV.evI.eq_4 (ar @EV.evI.eq_5 (ar @EV.evI.eq_6 (ar @EV.evO.eq_1 (ar @EV.evO.eq_2 (ar @EV.opI.eq_1 (ar @EV.opI.eq_2 (ar @EV.opI.eq_3 (ar @EV.opI.eq_4 (ar @EV.opI.eq_5 (ar @EV.opI.eq_6 (ar @EV.opI.eq_7 (ar @EV.opI.eq_8 (ar @EV.opI.eq_9 (ar @EV.opI.eq_10 (ar @EV.opI.eq_11 (ar @EV.b11.eq_1 (ar @EV.b11.eq_2 (ar @EV.b11.eq_3 (ar @EV.b11.eq_4 (ar @EV.b11.eq_5 (ar @EV.b11.eq_6 (ar @EV.b11.eq_7 (ar @EV.b11.eq_8 (ar @EV.b11.eq_9 (ar @EV.b11.eq_10 (ar @EV.b11.eq_11 (ar @EV.b11.eq_12 (ar @EV.b11.eq_13 (ar @EV.b12.eq_1 (ar @EV.b12.eq_2 (ar @EV.b12.eq_3 (ar @EV.b5.eq_1 (ar @EV.b5.eq_2 (ar @EV.cG.eq_1 (ar @EV.cG.eq_2 (ar @EV.iiR.eq_1 (ar @EV.iiR.eq_2 (ar @EV.bW.eq_1 (ar @EV.store.eq_1 (ar @EV.store.eq_2 (ar @EV.store.eq_3 (ar @EV.setAll.eq_1 (ar @EV.setAll.eq_2 (ar @EV.setAll.eq_3 (ar @EV.truth.eq_1 (ar @EV.truth.eq_2 (ar @EV.truth.eq_3 (ar @EV.truth.eq_4 (ar @EV.truth.eq_5 (ar @EV.truth.eq_6 (ar @KG.sH (ar @KG.vX (ar @KG.pH (ar @KG.x_ (@KG.yb))))))))))))))))))))))))))))))))))))))))))))))))))))))))))))))))))))))))))))))))))))))))))))))))
namespace KG
open EV
open PySem (Str)
open L2 (atI ixN ltP)
noncomputable def fV:Fn:=⟨1,1,false,(.cons (.ret (.and (.isi (.var 0) (.ty "int")) (.not (.isi (.var 0) (.ty "bool"))))) .nil)⟩
noncomputable def zA:Fn:=⟨3,3,false,(.cons (.ret (.and (.call "is_whole" (.cons (.var 0) .nil)) (.cmp2 .le .le (.var 1) (.var 0) (.var 2)))) .nil)⟩
noncomputable def eW:Fn:=⟨1,1,false,(.cons (.ret (.and (.isi (.var 0) (.ty "tuple")) (.cmp .eq (.bi .len (.cons (.var 0) .nil)) (.con (.int 2))))) .nil)⟩
noncomputable def fL:Fn:=⟨1,1,false,(.cons (.ret (.bi .all (.cons (.comp (.rng (.op .sub (.bi .len (.cons (.var 0) .nil)) (.con (.int 1)))) [none,none,some 0] (.nm 1) .yes (.cmp .lt (.ix (.var 2) (.var 1)) (.ix (.var 2) (.op .add (.var 1) (.con (.int 1)))))) .nil))) .nil)⟩
noncomputable def dS:Fn:=⟨1,3,false,(.cons (.ite (.not (.val (.call "is_pair" (.cons (.var 0) .nil)))) (.cons (.ret (.con (.bl false))) .nil) .nil) (.cons (.set (.tp [1,2]) (.var 0)) (.cons (.ite (.or (.not (.val (.call "is_between" (.cons (.var 1) (.cons (.con (.int 1)) (.cons (.glb "MOST") .nil)))))) (.not (.val (.isi (.var 2) (.ty "tuple"))))) (.cons (.ret (.con (.bl false))) .nil) .nil) (.cons (.ret (.and (.bi .all (.cons (.comp (.seq (.var 2)) [none,none,some 1] (.nm 1) .yes (.call "is_tie" (.cons (.var 1) (.cons (.var 2) .nil)))) .nil)) (.call "rises" (.cons (.var 2) .nil)))) .nil))))⟩
noncomputable def zX:Fn:=⟨2,4,false,(.cons (.ite (.not (.val (.call "is_pair" (.cons (.var 0) .nil)))) (.cons (.ret (.con (.bl false))) .nil) .nil) (.cons (.set (.tp [2,3]) (.var 0)) (.cons (.ret (.and (.call "is_whole" (.cons (.var 2) .nil)) (.and (.call "is_whole" (.cons (.var 3) .nil)) (.cmp3 .le .lt .lt (.con (.int 0)) (.var 2) (.var 3) (.var 1))))) .nil)))⟩
noncomputable def eI:Fn:=⟨1,1,false,(.cons (.ite (.not (.val (.call "is_web" (.cons (.var 0) .nil)))) (.cons (.raise "NoWeb" (.cons (.con (.str "a web is due")) .nil)) .nil) .nil) .nil)⟩
noncomputable def jO:Fn:=⟨1,1,false,(.cons (.exp (.call "need_web" (.cons (.var 0) .nil))) (.cons (.ret (.bi .tuple (.cons (.comp (.rng (.ix (.var 0) (.con (.int 0)))) [none,none,some 0] (.nm 1) .yes (.call "hood_of" (.cons (.var 2) (.cons (.var 1) .nil)))) .nil))) .nil))⟩
noncomputable def gZ:Fn:=⟨2,4,false,(.cons (.set (.tp [2,3]) (.var 0)) (.cons (.ret (.bi .tuple (.cons (.comp (.rng (.var 2)) [none,none,some 1,some 3] (.nm 1) (.or (.cmp .eq (.var 1) (.var 2)) (.val (.call "are_tied" (.cons (.var 3) (.cons (.var 2) (.cons (.var 1) .nil)))))) (.var 1)) .nil))) .nil))⟩
noncomputable def fJ:Fn:=⟨3,3,false,(.cons (.ret (.cmp .isin (.tup (.cons (.bi .min (.cons (.var 1) (.cons (.var 2) .nil))) (.cons (.bi .max (.cons (.var 1) (.cons (.var 2) .nil))) .nil))) (.var 0))) .nil)⟩
noncomputable def q_:Fn:=⟨2,2,false,(.cons (.ret (.bi .tuple (.cons (.comp (.seq (.var 1)) [none,none,some 0] (.nm 1) (.cmp .isin (.var 1) (.var 2)) (.var 1)) .nil))) .nil)⟩
noncomputable def vT:Fn:=⟨2,2,false,(.cons (.ret (.comp (.seq (.var 0)) [none,none,some 1] (.nm 1) .yes (.call "mark_of" (.cons (.var 1) (.cons (.var 2) .nil))))) .nil)⟩
noncomputable def vJ:Fn:=⟨1,3,false,(.cons (.set (.nm 1) (.lst (.cons (.tup .nil) .nil))) (.cons (.for (.nm 2) (.rng (.ix (.var 0) (.con (.int 0)))) (.cons (.set (.nm 1) (.op .add (.var 1) (.comp (.seq (.var 1)) [none,none,some 2] (.nm 1) .yes (.op .add (.var 1) (.tup (.cons (.var 2) .nil)))))) .nil)) (.cons (.ret (.bi .sorted (.cons (.var 1) .nil))) .nil)))⟩
noncomputable def kh:Fn:=⟨2,2,false,(.cons (.ite (.cmp .lt (.var 1) (.bi .len (.cons (.var 0) .nil))) (.cons (.ret (.ix (.var 0) (.var 1))) .nil) .nil) (.cons (.ret (.con (.int 0))) .nil))⟩
noncomputable def zv:Fn:=⟨2,3,false,(.cons (.set (.nm 2) (.op .mod (.op .mul (.op .add (.op .add (.op .mod (.var 0) (.con (.int 2147483647))) (.op .mul (.con (.int 977)) (.var 1))) (.con (.int 1))) (.con (.int 48271))) (.con (.int 2147483647)))) (.cons (.set (.nm 2) (.op .mod (.op .mul (.var 2) (.var 2)) (.con (.int 2147483629)))) (.cons (.set (.nm 2) (.op .mod (.op .mul (.op .add (.var 2) (.op .mul (.con (.int 40692)) (.op .add (.var 1) (.con (.int 3))))) (.con (.int 69621))) (.con (.int 2147483647)))) (.cons (.ret (.op .fdiv (.var 2) (.con (.int 8)))) .nil))))⟩
noncomputable def nL:Fn:=⟨2,10,false,(.cons (.set (.nm 2) (.op .add (.con (.int 1)) (.op .mod (.var 0) (.var 1)))) (.cons (.set (.nm 3) (.op .fdiv (.var 0) (.var 1))) (.cons (.set (.nm 4) (.op .mod (.var 3) (.con (.int 6)))) (.cons (.set (.nm 5) (.lst .nil)) (.cons (.for (.nm 6) (.rng2 (.con (.int 1)) (.var 2)) (.cons (.for (.nm 7) (.rng (.var 6)) (.cons (.set (.nm 8) (.op .band (.op .shr (.op .fdiv (.var 3) (.con (.int 6))) (.op .add (.op .fdiv (.op .mul (.var 6) (.op .sub (.var 6) (.con (.int 1)))) (.con (.int 2))) (.var 7))) (.con (.int 1)))) (.cons (.ite (.cmp .eq (.var 4) (.con (.int 3))) (.cons (.set (.nm 8) (.op .fdiv (.op .mod (.call "_law_stir" (.cons (.var 0) (.cons (.op .add (.op .mul (.con (.int 8)) (.var 7)) (.var 6)) .nil))) (.con (.int 3))) (.con (.int 2)))) .nil) .nil) (.cons (.ite (.cmp .eq (.var 4) (.con (.int 4))) (.cons (.set (.nm 8) (.op .fdiv (.op .add (.op .mod (.call "_law_stir" (.cons (.var 0) (.cons (.op .add (.op .mul (.con (.int 8)) (.var 7)) (.var 6)) .nil))) (.con (.int 4))) (.con (.int 2))) (.con (.int 3)))) .nil) .nil) (.cons (.ite (.cmp .eq (.var 4) (.con (.int 5))) (.cons (.set (.nm 9) (.lst (.cons (.cmp .eq (.var 6) (.op .add (.var 7) (.con (.int 1)))) (.cons (.or (.cmp .eq (.var 6) (.op .add (.var 7) (.con (.int 1)))) (.cmp .eq (.op .sub (.var 6) (.var 7)) (.op .sub (.var 2) (.con (.int 1))))) (.cons (.cmp .eq (.var 7) (.con (.int 0))) (.cons (.con (.bl true)) (.cons (.and (.cmp .eq (.var 6) (.op .add (.var 7) (.con (.int 1)))) (.cmp .lt (.op .mod (.var 7) (.con (.int 3))) (.con (.int 2)))) .nil))))))) (.cons (.set (.nm 8) (.bi .int (.cons (.ix (.var 9) (.op .mod (.op .fdiv (.var 3) (.con (.int 6))) (.con (.int 5)))) .nil))) .nil)) .nil) (.cons (.ite (.cmp .eq (.var 8) (.con (.int 1))) (.cons (.app 5 (.tup (.cons (.var 7) (.cons (.var 6) .nil)))) .nil) .nil) .nil)))))) .nil)) (.cons (.ret (.tup (.cons (.var 2) (.cons (.bi .tuple (.cons (.bi .sorted (.cons (.own 5) .nil)) .nil)) .nil)))) .nil))))))⟩
noncomputable def uL:Fn:=⟨1,4,false,(.cons (.set (.nm 1) (.comp (.rng (.ix (.var 0) (.con (.int 0)))) [none,none] (.nm 1) .yes (.op .shl (.con (.int 1)) (.var 1)))) (.cons (.for (.tp [2,3]) (.seq (.ix (.var 0) (.con (.int 1)))) (.cons (.seti 1 (.var 2) (.op .bor (.ix (.own 1) (.var 2)) (.op .shl (.con (.int 1)) (.var 3)))) (.cons (.seti 1 (.var 3) (.op .bor (.ix (.own 1) (.var 3)) (.op .shl (.con (.int 1)) (.var 2)))) .nil))) (.cons (.ret (.own 1)) .nil)))⟩
noncomputable def uy:Fn:=⟨2,2,false,(.cons (.ret (.bi .tuple (.cons (.comp (.rng (.var 0)) [none,none,some 1] (.nm 1) (.cmp .eq (.op .band (.op .shr (.var 2) (.var 1)) (.con (.int 1))) (.con (.int 1))) (.var 1)) .nil))) .nil)⟩
noncomputable def iQ:Fn:=⟨2,2,false,(.cons (.ret (.call "is_between" (.cons (.var 1) (.cons (.con (.int 0)) (.cons (.op .sub (.ix (.var 0) (.con (.int 0))) (.con (.int 1))) .nil))))) .nil)⟩
noncomputable def jB:Fn:=⟨2,2,false,(.cons (.ite (.not (.val (.isi (.var 1) (.ty "tuple")))) (.cons (.ret (.con (.bl false))) .nil) .nil) (.cons (.ret (.and (.bi .all (.cons (.comp (.seq (.var 1)) [none,none,some 0] (.nm 1) .yes (.call "is_place" (.cons (.var 2) (.cons (.var 1) .nil)))) .nil)) (.call "rises" (.cons (.var 1) .nil)))) .nil))⟩
noncomputable def nB:Fn:=⟨2,2,false,(.cons (.ite (.not (.val (.call "is_some" (.cons (.var 0) (.cons (.var 1) .nil))))) (.cons (.raise "NoPlaces" (.cons (.con (.str "a rising tuple of places of the web is due")) .nil)) .nil) .nil) .nil)⟩
structure Web(p:Pr):Prop where
 is_whole:p.fns "is_whole" = some fV
 is_between:p.fns "is_between" = some zA
 is_pair:p.fns "is_pair" = some eW
 rises:p.fns "rises" = some fL
 is_web:p.fns "is_web" = some dS
 is_tie:p.fns "is_tie" = some zX
 need_web:p.fns "need_web" = some eI
 MOST:p.glb "MOST" = some (.int 8)
structure Base(p:Pr):Prop extends Web p where
 all_some:p.fns "all_some" = some vJ
 _law_cell_at:p.fns "_law_cell_at" = some kh
 _law_stir:p.fns "_law_stir" = some zv
 _law_web:p.fns "_law_web" = some nL
 _law_some:p.fns "_law_some" = some uy
structure nW(p:Pr):Prop where
 _law_cell_at:p.fns "_law_cell_at" = some kh
 _law_stir:p.fns "_law_stir" = some zv
 _law_web:p.fns "_law_web" = some nL
theorem Base.draw{p:Pr}(B:Base p):nW p:=⟨B._law_cell_at,B._law_stir,B._law_web⟩
structure Hds(p:Pr):Prop where
 hoods:p.fns "hoods" = some jO
 hood_of:p.fns "hood_of" = some gZ
 are_tied:p.fns "are_tied" = some fJ
structure Nbr(p:Pr):Prop where
 hoods:p.fns "hoods" = some jO
 hood_of:p.fns "hood_of" = some gZ
 are_tied:p.fns "are_tied" = some fJ
 mark_of:p.fns "mark_of" = some q_
 marks_of:p.fns "marks_of" = some vT
structure Ae(p:Pr):Prop extends Nbr p where
 _law_masks:p.fns "_law_masks" = some uL
noncomputable instance {p:Pr}:CoeOut (Base p) (Web p):=⟨λb=>b.toWeb⟩
theorem Nbr.hds{p:Pr}(O:Nbr p):Hds p:=⟨O.hoods,O.hood_of,O.are_tied⟩
noncomputable instance {p:Pr}:CoeOut (Base p) (nW p):=⟨λb=>b.draw⟩
noncomputable instance {p:Pr}:CoeOut (Nbr p) (Hds p):=⟨λb=>b.hds⟩
noncomputable instance {p:Pr}:CoeOut (Ae p) (Nbr p):=⟨λb=>b.toNbr⟩
structure ja(p:Pr):Prop where
 is_place:p.fns "is_place" = some iQ
 is_some:p.fns "is_some" = some jB
structure gk(p:Pr):Prop where
 is_place:p.fns "is_place" = some iQ
 is_some:p.fns "is_some" = some jB
 need_some:p.fns "need_some" = some nB
theorem gk.a{p:Pr}(b:gk p):ja p:=⟨b.is_place,b.is_some⟩
noncomputable instance {p:Pr}:CoeOut (gk p) (ja p):=⟨λb=>b.a⟩
section
variable{p:Pr}
theorem qc{k:Nat}{x:Str}{f:Fn}{ds:List D}(h:p.fns x=some f):qa p (k+1) x ds=zJ ⟨qa p k,p.glb,p.sub,p.cat,p.fld⟩ f ds:=by
 rw[qa,h]
section
variable(B:Web p)
include B
theorem is_whole{k:Nat}(i:Int):qa p (k+1) "is_whole" [.int i]=.ok (.bl true):=by rw[qc B.is_whole];rfl
theorem is_between{k:Nat}(i a b:Int)(h:a<=i/\i<=b):qa p (k+2) "is_between" [.int i,.int a,.int b]=.ok (.bl true):=by
 rw[qc B.is_between];refine qp rfl rfl ?_;simp[KG.Z,zA,is_whole B,ql,gy,h.1,h.2]
theorem is_pair{k:Nat}(a b:D):qa p (k+1) "is_pair" [.tup [a,b]]=.ok (.bl true):=by
 rw[qc B.is_pair];refine qp rfl rfl ?_;simp[KG.Z,eW,b1,seq?,ql,D.asks,D.plain,D.deep,D.eqv]
theorem is_tie{k:Nat}(a b m:Int)(h:0<=a/\a<b/\b<m):qa p (k+2) "is_tie" [.tup [.int a,.int b],.int m]=.ok (.bl true):=by
 rw[qc B.is_tie];refine qp rfl rfl ?_;simp[KG.Z,zX,is_pair B,is_whole B,ql,gy,h.1,h.2.1,h.2.2]
theorem rises{k:Nat}(xs:List D)(hz:xs.length<=28)(h:∀(i:Nat) (q:i+1<xs.length),ql .lt xs[i] xs[i+1]=.ok true):qa p (k+1) "rises" [.tup xs]=.ok (.bl true):=by
 rw[qc B.rises];refine qp rfl rfl ?_;have hr:zh ((xs.length:Int)-1)=true:=by simp[zh];lia
 have hc:evE ⟨qa p k,p.glb,p.sub,p.cat,p.fld⟩ (.comp (.rng (.op .sub (.bi .len (.cons (.var 0) .nil)) (.con (.int 1)))) [none,none,some 0] (.nm 1) .yes (.cmp .lt (.ix (.var 2) (.var 1)) (.ix (.var 2) (.op .add (.var 1) (.con (.int 1)))))) [some (.tup xs)]=.ok (.lst ((zC 0 ((xs.length:Int)-1).toNat).flatMap λ_=>[.bl true])):=by
  refine gI (c:=[some (.tup xs)]) ?_ ?_ rfl ?_
  ·simp[KG.Z,b1,seq?,op2,hr]
  ·simp[zC,SZ];lia
  ·intro x hx;simp only[zC,bj,List.mem_range]at hx;obtain⟨i,hi,rfl⟩:=hx;have e1:atI xs ((0:Int)+(i:Int))=some xs[i]:=by rw[Int.zero_add];exact fH (by lia)
   have e2:atI xs ((0:Int)+(i:Int)+1)=some xs[i+1]:=by rw[Int.zero_add];exact fH (i:=i+1) (by lia)
   have e3:=h i (by lia);simp only[Int.zero_add]at e1 e2;simp[KG.Z,ixD,op2,e1,e2,e3]
 simp[KG.Z,fL,hc,b1,all_true,yL]
theorem is_web{k:Nat}{m:Int}{ts:List (Int×Int)}(h:GW m ts):qa p (k+3) "is_web" [wb m ts]=.ok (.bl true):=by
 rw[qc B.is_web];refine qp rfl rfl ?_;have hr:=rises B (k:=k+1) (ts.map prD) (by simpa using h.len) (λi q=>by
  rw[List.getElem_map,List.getElem_map];exact yY (List.pairwise_iff_getElem.mp h.lt i (i+1) (by simp at q;lia) (by simpa using q) (by lia)))
 have hc:evE ⟨qa p (k+2),p.glb,p.sub,p.cat,p.fld⟩ (.comp (.seq (.var 2)) [none,none,some 1] (.nm 1) .yes (.call "is_tie" (.cons (.var 1) (.cons (.var 2) .nil)))) [some (wb m ts),some (.int m),some (.tup (ts.map prD))]=.ok (.lst ((ts.map prD).flatMap λ_=>[.bl true])):=by
  refine gI (c:=[some (.int m)]) ?_ ?_ rfl ?_
  ·simp[KG.Z,seq?]
  ·simp[SZ];have:=h.len;lia
  ·intro x hx;rw[bj]at hx;obtain⟨t,ht,rfl⟩:=hx;have e:=is_tie B (k:=k) t.1 t.2 m (h.ok t ht);have e':qa p (k+2) "is_tie" [prD t,.int m]=.ok (.bl true):=e;simp[KG.Z,e']
 simp[KG.Z,dS,is_pair B,is_between B m 1 8 ⟨h.lo,h.hi⟩,B.MOST,hc,b1,all_true,hr]
theorem need_web{k:Nat}{m:Int}{ts:List (Int×Int)}(h:GW m ts):qa p (k+4) "need_web" [wb m ts]=.ok .non:=by
 rw[qc B.need_web];simp only[zJ];simp[KG.Z,eI,is_web B h]
end
theorem iC(hf:p.fns "_law_stir" = some zv){k:Nat}(c j:Int):qa p (k+1) "_law_stir" [.int c,.int j]=.ok (.int (st c j)):=by
 have s1:small 977=true:=by decide
 have s2:small 48271=true:=by decide
 have s3:small 40692=true:=by decide
 have s4:small 69621=true:=by decide
 have s5:=rN ((c%2147483647+977 * j+1) * 48271) 2147483647 (by decide) (by decide);rw[qc hf];refine qp rfl rfl ?_;simp[KG.Z,zv,op2,s1,s2,s3,s4,s5,st]
section
variable(B:Base p)
include B
end
section
variable(B:Web p)(S:ja p)
include B S
theorem is_place{k:Nat}(i m:Int)(t:D)(h:0<=i/\i<m):qa p (k+3) "is_place" [.tup [.int m,t],.int i]=.ok (.bl true):=by
 rw[qc S.is_place];refine qp rfl rfl ?_;simp[KG.Z,iQ,ixD,atI,ixN,op2,is_between B i 0 (m-1) (by lia)]
theorem is_some{k:Nat}{m:Int}{t:D}{s:List Int}(h:GS m s):qa p (k+4) "is_some" [.tup [.int m,t],tu s]=.ok (.bl true):=by
 rw[qc S.is_some];refine qp rfl rfl ?_;have hr:=rises B (k:=k+2) (s.map D.int) (by simp;have:=h.len;lia) (λi q=>by
  rw[List.getElem_map,List.getElem_map];have:=List.pairwise_iff_getElem.mp h.lt i (i+1) (by simp at q;lia) (by simpa using q) (by lia);simp[ql,gy,this])
 have hc:evE ⟨qa p (k+3),p.glb,p.sub,p.cat,p.fld⟩ (.comp (.seq (.var 1)) [none,none,some 0] (.nm 1) .yes (.call "is_place" (.cons (.var 2) (.cons (.var 1) .nil)))) [some (.tup [.int m,t]),some (tu s)]=.ok (.lst ((s.map D.int).flatMap λ_=>[.bl true])):=by
  refine gI (c:=[some (.tup [.int m,t])]) ?_ ?_ rfl ?_
  ·simp[KG.Z,seq?]
  ·simp[SZ];have:=h.len;lia
  ·intro x hx;rw[bj]at hx;obtain⟨i,hi,rfl⟩:=hx;simp[KG.Z,is_place B S i m t (h.ok i hi)]
 simp[KG.Z,jB,hc,b1,all_true,hr]
omit S in
theorem need_some(S:gk p){k:Nat}{m:Int}{t:D}{s:List Int}(h:GS m s):qa p (k+5) "need_some" [.tup [.int m,t],tu s]=.ok .non:=by
 rw[qc S.need_some];simp only[zJ];simp[KG.Z,nB,is_some B S h]
end
theorem mM(hA:p.fns "are_tied" = some fJ){k:Nat}(ts:List (Int×Int))(a b:Int):qa p (k+1) "are_tied" [.tup (ts.map prD),.int a,.int b]=.ok (.bl (fN ts a b)):=by
 rw[qc hA];refine qp rfl rfl ?_;simp[KG.Z,fJ,b1,AE,fN,mn,mx]
theorem rC(hH:p.fns "hood_of" = some gZ)(hA:p.fns "are_tied" = some fJ){k:Nat}{m:Int}{ts:List (Int×Int)}(h:GW m ts)(a:Int):qa p (k+2) "hood_of" [wb m ts,.int a]=.ok (tu (hd m ts a)):=by
 rw[qc hH];refine qp rfl rfl ?_;have h1:=h.lo;have h2:=h.hi;have hc:evE ⟨qa p (k+1),p.glb,p.sub,p.cat,p.fld⟩ (.comp (.rng (.var 2)) [none,none,some 1,some 3] (.nm 1) (.or (.cmp .eq (.var 1) (.var 2)) (.val (.call "are_tied" (.cons (.var 3) (.cons (.var 2) (.cons (.var 1) .nil)))))) (.var 1)) [some (wb m ts),some (.int a),some (.int m),some (.tup (ts.map prD))]=.ok (.lst ((hd m ts a).map D.int)):=by
  rw[hd,<-uQ,<-gx];refine gI (c:=[some (.int a),some (.tup (ts.map prD))]) ?_ ?_ rfl ?_
  ·have:zh m=true:=by simp[zh];lia
   simp[KG.Z,this]
  ·simp[zC,SZ];lia
  ·intro x hx;rw[gx,bj]at hx;obtain⟨b,hb,rfl⟩:=hx;have e:ql .eq (.int b) (.int a)=.ok (b==a):=rfl;simp[KG.Z,e,mM hA];by_cases q:b=a
   ·simp[q]
   ·simp[q];cases fN ts a b<;>simp
 simp[KG.Z,gZ,hc,b1,seq?]
section
variable(B:Web p)(O:Hds p)
include O
theorem are_tied{k:Nat}(ts:List (Int×Int))(a b:Int):qa p (k+1) "are_tied" [.tup (ts.map prD),.int a,.int b]=.ok (.bl (fN ts a b)):=mM O.are_tied ts a b
theorem hood_of{k:Nat}{m:Int}{ts:List (Int×Int)}(h:GW m ts)(a:Int):qa p (k+2) "hood_of" [wb m ts,.int a]=.ok (tu (hd m ts a)):=rC O.hood_of O.are_tied h a
include B
end
section
variable(O:Nbr p)
include O
end
end
theorem uR{α:Type}{w:W}{it:It}{cap:List (Option Nat)}{t:T}{elt:E}{τ c:Env}{l:List α}{f:α->D}(q:α->Bool)(g:α->D)(h:evI w it τ=.ok (l.map f))(hz:l.length<=SZ)(hc:cP cap τ=none::none::c)
  (hb:∀a∈l,evT w t (none::some (f a)::c)=.ok (q a)/\(q a=true->evE w elt (none::some (f a)::c)=.ok (g a))):evE w (.comp it cap (.nm 1) t elt) τ=.ok (.lst ((l.filter q).map g)):=by
 have key:∀(r:List α) (v:Option D) (acc:List D),(∀x∈r,x∈l)->zK (λx σ=>noEx ((store (.nm 1) x σ).bind λσ'=>(evT w t σ').bind λr=>if r then (evE w elt σ').bind λd=>.ok (σ',[d])else .ok (σ',[]))) (r.map f) (none::v::c) acc=.ok (acc++(r.filter q).map g):=by
  intro r
  induction r with
  |nil=>intro v acc _;simp[zK]
  |cons x r ih=>
   intro v acc hm;obtain⟨h1,h2⟩:=hb x (hm x aL);rw[bt,zK];have e:noEx ((store (.nm 1) (f x) (none::v::c)).bind λσ'=>(evT w t σ').bind λr=>if r then (evE w elt σ').bind λd=>.ok (σ',[d])else .ok (σ',[]))=.ok (none::some (f x)::c,if q x then [g x]else []):=by
    simp only[store,R.bind_ok,List.set_cons_succ,List.set_cons_zero,h1];cases hq:q x with
    |false=>rfl
    |true=>simp only[if_true,h2 hq,R.bind_ok];rfl
   rw[e];simp only[R.bind_ok];rw[ih (some (f x)) _ λy hy=>hm y (aI _ hy),List.filter_cons,List.append_assoc];cases q x<;>simp
 rw[qr,h];simp only[R.bind_ok];rw[if_neg (by simp;lia),hc,key l none [] λ_ h=>h]
 rfl
theorem gK{α:Type}{w:W}{it:It}{cap:List (Option Nat)}{elt:E}{τ c:Env}{l:List α}{f:α->D}(g:α->D)(h:evI w it τ=.ok (l.map f))(hz:l.length<=SZ)(hc:cP cap τ=none::none::c)
  (hb:∀a∈l,evE w elt (none::some (f a)::c)=.ok (g a)):evE w (.comp it cap (.nm 1) .yes elt) τ=.ok (.lst (l.map g)):=by
 have:=uR (t:=.yes) (elt:=elt) (f:=f) (λ_=>true) g h hz hc λa ha=>⟨rfl,λ_=>hb a ha⟩
 rwa[List.filter_eq_self.mpr (λ_ _=>rfl)]at this
theorem iT{w:W}{e:E}{τ:Env}{xs:List D}(h:evE w e τ=.ok (.tup xs)):evI w (.seq e) τ=.ok xs:=by rw[evI.eq_1,h];rfl
theorem rl{α:Type}(l:List α)(f:α->Bool):bools? (l.map λa=>D.bl (f a))=some (l.map f):=by
 induction l with
 |nil=>rfl
 |cons a r ih=>rw[bt,bools?,ih];rfl
theorem l0{α:Type}(l:List α)(f:α->Bool):b1 .all [.lst (l.map λa=>D.bl (f a))]=.ok (.bl (l.all f)):=by
 rw[b1,b11];simp only[cG];rw[rl];simp only[b5];rw[List.all_map];rfl
theorem r8(xs:List D):b1 .len [.tup xs]=.ok (.int xs.length):=rfl
theorem ne_int(a b:Int):ql .ne (.int a) (.int b)=.ok (!decide (a=b)):=by
 show R.ok (!(a==b))=_
 congr 1
theorem kT(a b:Bool):ql .ne (.bl a) (.bl b)=.ok (!decide (a=b)):=by
 cases a<;>cases b<;>rfl
theorem uY(ns:List Int)(lo hi:Option Int):∃cs:List Int,cutD (ns.map D.int) lo hi=cs.map D.int/\cs.length<=ns.length:=by
 refine⟨(ns.drop _).take _,by rw[cutD,<-List.map_drop,<-List.map_take],by simp;lia⟩
theorem fx{α:Type}{f:α->D}{r:List D}{x:D}{l:List α}(e:x::r=l.map f):∃a l',l=a::l'/\x=f a/\r=l'.map f:=by
 cases l with
 |nil=>cases e
 |cons a l'=>rw[bt]at e;injection e with e1 e2;exact⟨a,l',rfl,e1,e2⟩
theorem pC{w:W}{f:Fn}{ds:List D}{τ:Env}{Q:D->Prop}(hl:ds.length=f.ps)(hτ:ds.map some++bD (f.N-f.ps) none=τ)(h:Ends (λ_=>False) Q (qf w f.body τ)):∃d,zJ w f ds=.ok d/\Q d:=by
 rw[zJ,if_pos hl,hτ];cases z:qf w f.body τ with
 |rt d=>rw[z]at h;exact⟨d,rfl,h⟩
 |nx _=>rw[z]at h;exact h.elim
 |_=>rw[z]at h;exact h.elim
noncomputable def eE:Fn:=⟨2,4,false,(.cons (.ite (.cmp .is (.var 1) (.con .non)) (.cons (.ret (.cmp .is (.var 0) (.con .non))) .nil) .nil) (.cons (.ite (.val (.isi (.var 1) (.ty "bool"))) (.cons (.ret (.and (.isi (.var 0) (.ty "bool")) (.cmp .eq (.var 0) (.var 1)))) .nil) .nil) (.cons (.ite (.val (.isi (.var 1) (.ty "int"))) (.cons (.ret (.and (.isi (.var 0) (.ty "int")) (.and (.not (.isi (.var 0) (.ty "bool"))) (.cmp .eq (.var 0) (.var 1))))) .nil) .nil) (.cons (.ite (.val (.isi (.var 1) (.ty "str"))) (.cons (.ret (.and (.isi (.var 0) (.ty "str")) (.cmp .eq (.var 0) (.var 1)))) .nil) .nil) (.cons (.ite (.or (.cmp .ne (.isi (.var 1) (.ty "list")) (.isi (.var 0) (.ty "list"))) (.cmp .ne (.isi (.var 1) (.ty "tuple")) (.isi (.var 0) (.ty "tuple")))) (.cons (.ret (.con (.bl false))) .nil) .nil) (.cons (.ite (.cmp .ne (.bi .len (.cons (.var 0) .nil)) (.bi .len (.cons (.var 1) .nil))) (.cons (.ret (.con (.bl false))) .nil) .nil) (.cons (.for (.tp [2,3]) (.zip (.var 0) (.var 1)) (.cons (.ite (.not (.val (.call "_law_same" (.cons (.var 2) (.cons (.var 3) .nil))))) (.cons (.ret (.con (.bl false))) .nil) .nil) .nil)) (.cons (.ret (.con (.bl true))) .nil))))))))⟩
noncomputable def zY:Fn:=⟨1,3,false,(.cons (.set (.nm 1) (.lst .nil)) (.cons (.for (.nm 2) (.rng (.var 0)) (.cons (.set (.nm 1) (.op .add (.var 1) (.comp (.rng2 (.op .add (.var 2) (.con (.int 1))) (.var 0)) [none,none,some 2] (.nm 1) .yes (.tup (.cons (.var 2) (.cons (.var 1) .nil)))))) .nil)) (.cons (.ret (.var 1)) .nil)))⟩
noncomputable def zZ:Fn:=⟨2,5,false,(.cons (.set (.nm 2) (.lst .nil)) (.cons (.for (.tp [3,4]) (.enum (.call "_law_pairs" (.cons (.var 0) .nil))) (.cons (.ite (.and (.cmp .eq (.op .mod (.var 1) (.con (.int 2))) (.con (.int 0))) (.cmp .eq (.op .mod (.op .shr (.op .fdiv (.var 1) (.con (.int 2))) (.var 3)) (.con (.int 2))) (.con (.int 1)))) (.cons (.app 2 (.var 4)) .nil) .nil) (.cons (.ite (.and (.cmp .eq (.op .mod (.var 1) (.con (.int 2))) (.con (.int 1))) (.cmp .lt (.op .mod (.call "_law_stir" (.cons (.var 1) (.cons (.var 3) .nil))) (.con (.int 5))) (.op .add (.con (.int 1)) (.op .mod (.op .fdiv (.var 1) (.con (.int 2))) (.con (.int 3)))))) (.cons (.app 2 (.var 4)) .nil) .nil) .nil))) (.cons (.ret (.tup (.cons (.var 0) (.cons (.bi .tuple (.cons (.own 2) .nil)) .nil)))) .nil)))⟩
noncomputable def vE:Fn:=⟨2,2,false,(.cons (.ite (.cmp .eq (.op .mod (.var 1) (.con (.int 2))) (.con (.int 0))) (.cons (.ret (.bi .tuple (.cons (.comp (.rng (.var 0)) [none,none,some 1] (.nm 1) (.cmp .eq (.op .mod (.op .shr (.op .fdiv (.var 2) (.con (.int 2))) (.var 1)) (.con (.int 2))) (.con (.int 1))) (.var 1)) .nil))) .nil) .nil) (.cons (.ret (.bi .tuple (.cons (.comp (.rng (.var 0)) [none,none,some 1] (.nm 1) (.cmp .lt (.op .mod (.call "_law_stir" (.cons (.var 2) (.cons (.op .add (.var 1) (.con (.int 60))) .nil))) (.con (.int 4))) (.op .add (.con (.int 1)) (.op .mod (.op .fdiv (.var 2) (.con (.int 2))) (.con (.int 3))))) (.var 1)) .nil))) .nil))⟩
structure Lw(p:Pr):Prop where
 _law_stir:p.fns "_law_stir" = some zv
 _law_pairs:p.fns "_law_pairs" = some zY
 _law_web_by:p.fns "_law_web_by" = some zZ
 _law_some_by:p.fns "_law_some_by" = some vE
section
variable{p:Pr}
noncomputable def prs(n:Nat):List (Int×Int):=(aV n).flatMap λa=>((aV n).filter λb=>decide (a<b)).map λ(b:Nat)=>((a:Int),(b:Int))
theorem vR(hf:p.fns "_law_pairs" = some zY)(m:Int)(h1:1<=m)(h2:m<=8):∃P,(∀k,qa p (k+1) "_law_pairs" [.int m]=.ok (.lst (P.map prD)))/\GW m P:=by
 have:m=1\/m=2\/m=3\/m=4\/m=5\/m=6\/m=7\/m=8:=by lia
 rcases this with rfl|rfl|rfl|rfl|rfl|rfl|rfl|rfl
 ·exact⟨prs 1,λk=>by rw[qc hf];kernel_rfl,by decide +kernel⟩
 ·exact⟨prs 2,λk=>by rw[qc hf];kernel_rfl,by decide +kernel⟩
 ·exact⟨prs 3,λk=>by rw[qc hf];kernel_rfl,by decide +kernel⟩
 ·exact⟨prs 4,λk=>by rw[qc hf];kernel_rfl,by decide +kernel⟩
 ·exact⟨prs 5,λk=>by rw[qc hf];kernel_rfl,by decide +kernel⟩
 ·exact⟨prs 6,λk=>by rw[qc hf];kernel_rfl,by decide +kernel⟩
 ·exact⟨prs 7,λk=>by rw[qc hf];kernel_rfl,by decide +kernel⟩
 ·exact⟨prs 8,λk=>by rw[qc hf];kernel_rfl,by decide +kernel⟩
noncomputable def WI(m c:Int)(P:List (Int×Int))(r:List D)(σ:Env):Prop:=
 ∃(j:Nat) (ts ps:List (Int×Int)) (v u:Option D),r=cQ j (ps.map prD)/\(ts++ps).Sublist P/\σ=[some (.int m),some (.int c),some (.lst (ts.map prD)),v,u]
theorem wH(hS:p.fns "_law_stir" = some zv)(hP0:p.fns "_law_pairs" = some zY)(hW:p.fns "_law_web_by" = some zZ){k:Nat}(m c:Int)(h1:1<=m)(h2:m<=8):∃ts,GW m ts/\qa p (k+2) "_law_web_by" [.int m,.int c]=.ok (wb m ts):=by
 obtain⟨P,hP,g⟩:=vR hP0 m h1 h2;have hl:=g.len;obtain⟨σ,⟨j,ts,ps,v,u,e,s,rfl⟩,ev⟩:=uF (w:=⟨qa p (k+1),p.glb,p.sub,p.cat,p.fld⟩) (tg:=.tp [3,4]) (it:=.enum (.call "_law_pairs" (.cons (.var 0) .nil)))
  (b:=.cons (.ite (.and (.cmp .eq (.op .mod (.var 1) (.con (.int 2))) (.con (.int 0))) (.cmp .eq (.op .mod (.op .shr (.op .fdiv (.var 1) (.con (.int 2))) (.var 3)) (.con (.int 2))) (.con (.int 1)))) (.cons (.app 2 (.var 4)) .nil) .nil) (.cons (.ite (.and (.cmp .eq (.op .mod (.var 1) (.con (.int 2))) (.con (.int 1))) (.cmp .lt (.op .mod (.call "_law_stir" (.cons (.var 1) (.cons (.var 3) .nil))) (.con (.int 5))) (.op .add (.con (.int 1)) (.op .mod (.op .fdiv (.var 1) (.con (.int 2))) (.con (.int 3)))))) (.cons (.app 2 (.var 4)) .nil) .nil) .nil))
  (r:=.cons (.ret (.tup (.cons (.var 0) (.cons (.bi .tuple (.cons (.own 2) .nil)) .nil)))) .nil) (τ:=[some (.int m),some (.int c),some (.lst []),none,none]) (ds:=cQ 0 (P.map prD)) (WI m c P)
  (by simp[KG.Z,hP k]) ⟨0,[],P,none,none,rfl,by simp,rfl⟩ (by
   rintro x t σ ⟨j,ts,ps,v,u,e,s,rfl⟩;cases ps with
   |nil=>cases e
   |cons y ps=>
    rw[bt,cQ]at e;injection e with e1 e2
    subst e1 e2;have hlen:ts.length<SZ:=by have:=s.length_le;simp at this;simp[SZ];lia
    have A:∀b:Bool,∃us,(us++ps).Sublist P/\us=if b then ts++[y]else ts:=by
     intro b;cases b
     ·exact⟨ts,(List.Sublist.append_left (List.sublist_cons_self _ _) _).trans s,rfl⟩
     ·exact⟨ts++[y],by simpa using s,rfl⟩
    refine⟨[some (.int m),some (.int c),some (.lst (ts.map prD)),some (.int j),some (prD y)],?_⟩;by_cases q:c%2=0
    ·obtain⟨us,a1,a2⟩:=A (decide (c/2/2^j%2=1));refine⟨[some (.int m),some (.int c),some (.lst (us.map prD)),some (.int j),some (prD y)],by simp[KG.Z],?_,j+1,us,ps,_,_,rfl,a1,rfl⟩;by_cases q2:c/2/2^j%2=1
     ·simp[KG.Z,op2,eq_int,q,q2,hlen]at a2 ⊢;subst a2;simp
     ·simp[KG.Z,op2,eq_int,q,q2]at a2 ⊢;subst a2;simp
    ·have q1:c%2=1:=by lia
     obtain⟨us,a1,a2⟩:=A (decide (st c j%5<1+c/2%3));refine⟨[some (.int m),some (.int c),some (.lst (us.map prD)),some (.int j),some (prD y)],by simp[KG.Z],?_,j+1,us,ps,_,_,rfl,a1,rfl⟩;by_cases q2:st c j%5<1+c/2%3
     ·simp[KG.Z,op2,eq_int,q1,lt_int,iC hS,q2,hlen]at a2 ⊢;subst a2;simp
     ·simp[KG.Z,op2,eq_int,q1,lt_int,iC hS,q2]at a2 ⊢;subst a2;simp)
 cases ps with
 |cons y ps=>cases e
 |nil=>
  refine⟨ts,g.sub (by simpa using s),?_⟩;rw[qc hW];refine qp (τ:=[some (.int m),some (.int c),none,none,none]) rfl rfl (zf (σ:=[some (.int m),some (.int c),some (.lst []),none,none]) (by simp[KG.Z]) (ev.trans ?_));simp[KG.Z,b1,seq?]
theorem AG(a:D):ql .is a .non=.ok (ef a):=by cases a<;>rfl
theorem same_int(hf:p.fns "_law_same" = some eE){k:Nat}(i:Int):qa p (k+1) "_law_same" [.int i,.int i]=.ok (.bl true):=by
 rw[qc hf];refine qp rfl rfl ?_;simp[KG.Z,eE,AG,ef,eq_int]
theorem GS.none{m:Int}:GS m []:=⟨List.Pairwise.nil,by simp,by simp⟩
end
noncomputable def fD:Fn:=⟨2,5,false,(.cons (.set (.tp [2,3]) (.var 0)) (.cons (.set (.nm 4) (.lst (.cons (.con .non) (.cons (.var 2) (.cons (.tup (.cons (.var 2) .nil)) (.cons (.tup (.cons (.var 2) (.cons (.bi .list (.cons (.var 3) .nil)) .nil))) (.cons (.tup (.cons (.con (.int 0)) (.cons (.tup .nil) .nil))) (.cons (.tup (.cons (.con (.int 9)) (.cons (.tup .nil) .nil))) (.cons (.tup (.cons (.con (.bl true)) (.cons (.tup .nil) .nil))) (.cons (.tup (.cons (.var 2) (.cons (.op .add (.var 3) (.tup (.cons (.tup (.cons (.con (.int 0)) (.cons (.con (.int 0)) .nil))) .nil))) .nil))) .nil)))))))))) (.cons (.set (.nm 4) (.op .add (.var 4) (.lst (.cons (.tup (.cons (.var 2) (.cons (.op .add (.var 3) (.tup (.cons (.tup (.cons (.op .sub (.var 2) (.con (.int 1))) (.cons (.var 2) .nil))) .nil))) .nil))) (.cons (.tup (.cons (.var 2) (.cons (.op .add (.var 3) (.tup (.cons (.tup (.cons (.con (.int 1)) (.cons (.con (.int 0)) .nil))) .nil))) .nil))) (.cons (.lst (.cons (.var 2) (.cons (.var 3) .nil))) (.cons (.tup (.cons (.var 2) (.cons (.var 3) (.cons (.tup .nil) .nil)))) (.cons (.con (.str "1")) .nil)))))))) (.cons (.set (.nm 4) (.op .add (.var 4) (.lst (.cons (.tup (.cons (.var 2) (.cons (.con .non) .nil))) (.cons (.tup (.cons (.var 2) (.cons (.tup (.cons (.tup (.cons (.con (.int 0)) .nil)) .nil)) .nil))) (.cons (.tup (.cons (.neg (.con (.int 1))) (.cons (.tup .nil) .nil))) (.cons (.tup (.cons (.var 2) (.cons (.op .add (.var 3) (.tup (.cons (.con .non) .nil))) .nil))) (.cons (.tup (.cons (.var 2) (.cons (.tup (.cons (.tup (.cons (.con (.int 0)) (.cons (.con (.int 1)) .nil))) (.cons (.tup (.cons (.con (.int 0)) (.cons (.con (.int 1)) .nil))) .nil))) .nil))) .nil)))))))) (.cons (.ret (.ix (.op .add (.var 4) (.lst (.cons (.tup (.cons (.con (.str "1")) (.cons (.tup .nil) .nil))) (.cons .dic (.cons (.tup (.cons (.var 2) (.cons (.tup (.cons (.tup (.cons (.con (.bl false)) (.cons (.con (.int 1)) .nil))) .nil)) .nil))) (.cons (.tup (.cons (.op .pow (.con (.int 10)) (.con (.int 30))) (.cons (.tup .nil) .nil))) .nil)))))) (.op .mod (.var 1) (.con (.int 22))))) .nil)))))⟩
noncomputable def od:D->Bool
 | .int _=>false
 | .fn _=>false
 | .exn _=>false
 |_=>true
noncomputable def nt:D->Bool
 | .tup _=>false
 | .fn _=>false
 | .exn _=>false
 |_=>true
theorem pick{l:List D}{P:D->Prop}(hL:∀d∈l,P d)(i:Int)(h:0<=i/\i<l.length):∃d,ixD (.lst l) (.int i)=.ok d/\P d:=by
 obtain⟨j,rfl⟩:∃j:Nat,i=j:=⟨i.toNat,by lia⟩
 have hj:j<l.length:=by lia
 refine⟨l[j],?_,hL _ (List.getElem_mem hj)⟩;simp only[ixD];rw[fH hj]
theorem kC(xs ys:List D)(h:xs.length+ys.length<=SZ):op2 .add (.tup xs) (.tup ys)=.ok (.tup (xs++ys)):=by
 rw[op2,if_pos ⟨rfl,h⟩]
noncomputable def cM(m T:Int)(TS:List D):List D:=[.non,.int m,.tup [.int m],.tup [.int m,.lst (TS)],.tup [.int 0,.tup []],.tup [.int 9,.tup []],.tup [.bl true,.tup []],.tup [.int m,.tup (TS++[.tup [.int 0,.int 0]])],.tup [.int m,.tup (TS++[.tup [.int (m-1),.int m]])],.tup [.int m,.tup (TS++[.tup [.int 1,.int 0]])],.lst [.int m,.tup (TS)],.tup [.int m,.tup (TS),.tup []],.str "1",.tup [.int m,.non],.tup [.int m,.tup [.tup [.int 0]]],.tup [.int (-1),.tup []],.tup [.int m,.tup (TS++[.non])],.tup [.int m,.tup [.tup [.int 0,.int 1],.tup [.int 0,.int 1]]],.tup [.str "1",.tup []],.dic,.tup [.int m,.tup [.tup [.bl false,.int 1]]],.tup [.int T,.tup []]]
section
variable{p:Pr}(B:Web p)
include B
theorem nJ{k:Nat}{d:D}(h:od d=true):qa p (k+1) "is_whole" [d]=.ok (.bl false):=by
 rw[qc B.is_whole];cases d<;>first|(cases h;done)|rfl
theorem yr{k:Nat}(i a b:Int):qa p (k+2) "is_between" [.int i,.int a,.int b]=.ok (.bl (decide (a<=i/\i<=b))):=by
 have e1:ql .le (.int a) (.int i)=.ok (decide (a<=i)):=rfl;have e2:ql .le (.int i) (.int b)=.ok (decide (i<=b)):=rfl;by_cases q:a<=i
 ·have e1:ql .le (.int a) (.int i)=.ok true:=by rw[e1,decide_eq_true q]
  by_cases q2:i<=b
  ·have e2:ql .le (.int i) (.int b)=.ok true:=by rw[e2,decide_eq_true q2]
   rw[qc B.is_between];refine qp rfl rfl ?_;simp[KG.Z,zA,is_whole B,e1,e2,q,q2]
  ·have e2:ql .le (.int i) (.int b)=.ok false:=by rw[e2,decide_eq_false q2]
   rw[qc B.is_between];refine qp rfl rfl ?_;simp[KG.Z,zA,is_whole B,e1,e2,q,q2]
 ·have e1:ql .le (.int a) (.int i)=.ok false:=by rw[e1,decide_eq_false q]
  rw[qc B.is_between];refine qp rfl rfl ?_;simp[KG.Z,zA,is_whole B,e1,q]
theorem ni{k:Nat}{d:D}(h:od d=true)(a b:D):qa p (k+2) "is_between" [d,a,b]=.ok (.bl false):=by
 rw[qc B.is_between];refine qp rfl rfl ?_;simp[KG.Z,zA,nJ B h]
theorem eF{k:Nat}{d:D}(h:nt d=true):qa p (k+1) "is_pair" [d]=.ok (.bl false):=by
 rw[qc B.is_pair];cases d<;>first|(cases h;done)|rfl
theorem jM{k:Nat}(xs:List D):qa p (k+1) "is_pair" [.tup xs]=.ok (.bl (decide ((xs.length:Int)=2))):=by
 have e:=r8 xs;have e2:=eq_int (xs.length:Int) 2;rw[qc B.is_pair];refine qp rfl rfl ?_;simp[KG.Z,eW,e,e2]
theorem nX{k:Nat}(a b m:Int):qa p (k+2) "is_tie" [.tup [.int a,.int b],.int m]=.ok (.bl (decide (0<=a/\a<b/\b<m))):=by
 have e1:ql .le (.int 0) (.int a)=.ok (decide (0<=a)):=rfl;have e2:ql .lt (.int a) (.int b)=.ok (decide (a<b)):=rfl;have e3:ql .lt (.int b) (.int m)=.ok (decide (b<m)):=rfl;by_cases q1:0<=a
 ·rw[decide_eq_true q1]at e1;by_cases q2:a<b
  ·rw[decide_eq_true q2]at e2;by_cases q3:b<m
   ·rw[decide_eq_true q3]at e3;rw[qc B.is_tie];refine qp rfl rfl ?_;simp[KG.Z,zX,is_pair B,is_whole B,e1,e2,e3,q1,q2,q3]
   ·rw[decide_eq_false q3]at e3;rw[qc B.is_tie];refine qp rfl rfl ?_;simp[KG.Z,zX,is_pair B,is_whole B,e1,e2,e3,q1,q2,q3]
  ·rw[decide_eq_false q2]at e2;rw[qc B.is_tie];refine qp rfl rfl ?_;simp[KG.Z,zX,is_pair B,is_whole B,e1,e2,q1,q2]
 ·rw[decide_eq_false q1]at e1;rw[qc B.is_tie];refine qp rfl rfl ?_;simp[KG.Z,zX,is_pair B,is_whole B,e1,q1]
theorem ny{k:Nat}{d:D}{m:D}(h:∀k,qa p (k+1) "is_pair" [d]=.ok (.bl false)):qa p (k+2) "is_tie" [d,m]=.ok (.bl false):=by
 rw[qc B.is_tie];refine qp rfl rfl ?_;simp[KG.Z,zX,h]
theorem oO{k:Nat}{a b:D}{m:D}(h:od a=true):qa p (k+2) "is_tie" [.tup [a,b],m]=.ok (.bl false):=by
 rw[qc B.is_tie];refine qp rfl rfl ?_;simp[KG.Z,zX,is_pair B,nJ B h]
theorem rM{k:Nat}(xs:List D)(hz:xs.length<=100)(b:Nat->Bool)(h:∀(i:Nat) (q:i+1<xs.length),ql .lt xs[i] xs[i+1]=.ok (b i)):qa p (k+1) "rises" [.tup xs]=.ok (.bl ((aV (xs.length-1)).all b)):=by
 rw[qc B.rises];refine qp (τ:=[some (.tup xs)]) rfl rfl ?_;have hr:zh ((xs.length:Int)-1)=true:=by simp[zh];lia
 have hc:evE ⟨qa p k,p.glb,p.sub,p.cat,p.fld⟩ (.comp (.rng (.op .sub (.bi .len (.cons (.var 0) .nil)) (.con (.int 1)))) [none,none,some 0] (.nm 1) .yes (.cmp .lt (.ix (.var 2) (.var 1)) (.ix (.var 2) (.op .add (.var 1) (.con (.int 1)))))) [some (.tup xs)]=.ok (.lst ((aV (xs.length-1)).map λi=>.bl (b i))):=by
  refine gK (f:=λ(i:Nat)=>D.int (i:Int)) (c:=[some (.tup xs)]) (λi=>.bl (b i)) ?_ ?_ rfl ?_
  ·have e:zC 0 (xs.length-1)=(aV (xs.length-1)).map λ(i:Nat)=>D.int (i:Int):=by
    rw[zC];simp
   simp[KG.Z,b1,seq?,op2,hr,e]
  ·simp[SZ];lia
  ·intro i hi;have hi:=List.mem_range.mp hi;have e1:atI xs (i:Int)=some xs[i]:=fH (by lia);have e2:atI xs ((i:Int)+1)=some xs[i+1]:=fH (i:=i+1) (by lia);have e3:=h i (by lia);simp[KG.Z,ixD,op2,e1,e2,e3]
 have h3:=l0 (aV (xs.length-1)) b;show qf _ (.cons (.ret (.bi .all (.cons _ .nil))) .nil) _=_;rw[qf,zF,qs,zo,hc];simp only[R.bind_ok,zo,h3,R.out_ok]
theorem eZ{k:Nat}{d:D}(h:∀k,qa p (k+1) "is_pair" [d]=.ok (.bl false)):qa p (k+3) "is_web" [d]=.ok (.bl false):=by
 have h:=h (k+1);rw[qc B.is_web];refine qp rfl rfl ?_;simp[KG.Z,dS,h]
theorem jE{k:Nat}{a b:D}(h:∀k,qa p (k+2) "is_between" [a,.int 1,.int 8]=.ok (.bl false)):qa p (k+3) "is_web" [.tup [a,b]]=.ok (.bl false):=by
 rw[qc B.is_web];refine qp rfl rfl ?_;simp[KG.Z,dS,is_pair B,B.MOST,h]
theorem mP{k:Nat}{m:Int}(h:1<=m/\m<=8){b:D}(hb:nt b=true):qa p (k+3) "is_web" [.tup [.int m,b]]=.ok (.bl false):=by
 have e:∀w:W,zM w b (.ty "tuple")=.ok (.bl false):=λw=>by cases b<;>first|(cases hb;done)|rfl
 rw[qc B.is_web];refine qp rfl rfl ?_;simp[KG.Z,dS,is_pair B,is_between B m 1 8 h,B.MOST,e]
theorem ju{k:Nat}{m:Int}(h:1<=m/\m<=8){ys:List (D×Bool)}{xs:List D}(hx:xs=ys.map (·.1))(hz:xs.length<=100)(hf:∀y∈ys,qa p (k+2) "is_tie" [y.1,.int m]=.ok (.bl y.2))(hb:ys.all (·.2)=false\/qa p (k+2) "rises" [.tup xs]=.ok (.bl false)):qa p (k+3) "is_web" [.tup [.int m,.tup xs]]=.ok (.bl false):=by
 rw[qc B.is_web];refine qp (τ:=[some (.tup [.int m,.tup xs]),none,none]) rfl rfl ?_;have hc:evE ⟨qa p (k+2),p.glb,p.sub,p.cat,p.fld⟩ (.comp (.seq (.var 2)) [none,none,some 1] (.nm 1) .yes (.call "is_tie" (.cons (.var 1) (.cons (.var 2) .nil)))) [some (.tup [.int m,.tup xs]),some (.int m),some (.tup xs)]=.ok (.lst (ys.map λx=>.bl x.2)):=by
  refine gK (f:=λ(x:D×Bool)=>x.1) (c:=[some (.int m)]) (λ(x:D×Bool)=>.bl x.2) (by rw[<-hx];exact iT rfl) (by rw[hx]at hz;simp at hz;simp[SZ];lia) rfl λx hx=>?_
  have e:=hf x hx;simp[KG.Z,e]
 have h3:=l0 ys (·.2);show qf _ (.cons (.ite _ _ _) (.cons (.set (.tp [1,2]) _) (.cons (.ite _ _ _) (.cons (.ret (.and (.bi .all (.cons _ .nil)) _)) .nil)))) _=_;refine zf (σ:=[some (.tup [.int m,.tup xs]),none,none]) (by simp[KG.Z,is_pair B]) ?_;refine zf (σ:=[some (.tup [.int m,.tup xs]),some (.int m),some (.tup xs)]) (by simp[KG.Z]) ?_;refine zf (σ:=[some (.tup [.int m,.tup xs]),some (.int m),some (.tup xs)]) (by simp[KG.Z,is_between B m 1 8 h,B.MOST]) ?_;rw[qf,zF,qw,qs,zo,hc];simp only[R.bind_ok,zo,h3];rcases hb with hb|hb
 ·rw[hb];rfl
 ·cases q:ys.all (·.2)with
  |false=>rfl
  |true=>simp[KG.Z,hb]
theorem yV(hf:p.fns "_law_no_web" = some fD){k:Nat}{m:Int}{ts:List (Int×Int)}(h:GW m ts)(n:Int):∃d,qa p (k+1) "_law_no_web" [wb m ts,.int n]=.ok d/\∀k,qa p (k+3) "is_web" [d]=.ok (.bl false):=by
 have hm:1<=m/\m<=8:=⟨h.lo,h.hi⟩
 have hl:=h.len;have hz:(ts.map prD).length<=99:=by simp;lia
 have old:∀(k:Nat) (x:D),x∈ts.map prD->qa p (k+2) "is_tie" [x,.int m]=.ok (.bl true):=λk x hx=>by
  obtain⟨t,ht,rfl⟩:=bj.mp hx;exact is_tie B t.1 t.2 m (h.ok t ht)
 -- a tie more that is none
 have more:∀(x:D),(∀k,qa p (k+2) "is_tie" [x,.int m]=.ok (.bl false))->∀k,qa p (k+3) "is_web" [.tup [.int m,.tup (ts.map prD++[x])]]=.ok (.bl false):=λx hx k=>by
  refine ju B hm (ys:=ts.map (λt=>(prD t,true))++[(x,false)]) (by simp) (by simp at hz ⊢;lia) (λy hy=>?_) (.inl (by simp));rcases List.mem_append.mp hy with z|z
  ·obtain⟨t,ht,rfl⟩:=bj.mp z;exact is_tie B t.1 t.2 m (h.ok t ht)
  ·rw[List.mem_singleton.mp z];exact hx k
 have hT:op2 .pow (.int 10) (.int 30)=.ok (.int (10^30)):=by rw[op2,opI,if_pos (by decide)];rfl
 have hb:¬ ((1:Int)<=10^30/\(10:Int)^30<=8):=by decide
 generalize (10:Int)^30=T at *;have hL:∀d∈cM m T (ts.map prD),∀k,qa p (k+3) "is_web" [d]=.ok (.bl false):=by
  have num:∀(i:Int) (b:D),¬ (1<=i/\i<=8)->∀k,qa p (k+3) "is_web" [.tup [.int i,b]]=.ok (.bl false):=λi b hi k=>jE B λk=>by rw[yr B,decide_eq_false hi]
  have len:∀xs:List D,(xs.length:Int)≠2->∀k,qa p (k+3) "is_web" [.tup xs]=.ok (.bl false):=λxs hx k=>eZ B λk=>by rw[jM B,decide_eq_false hx]
  have one:∀x:D,(∀k,qa p (k+2) "is_tie" [x,.int m]=.ok (.bl false))->∀k,qa p (k+3) "is_web" [.tup [.int m,.tup [x]]]=.ok (.bl false):=λx hx k=>ju B hm (ys:=[(x,false)]) rfl (by simp) (λy hy=>by rw[List.mem_singleton.mp hy];exact hx k) (.inl rfl)
  have tv:∀a b:Int,¬ (0<=a/\a<b/\b<m)->∀k,qa p (k+2) "is_tie" [.tup [.int a,.int b],.int m]=.ok (.bl false):=λa b q k=>by rw[nX B,decide_eq_false q]
  simp only[cM,List.forall_mem_cons];refine⟨λk=>eZ B λk=>eF B rfl,λk=>eZ B λk=>eF B rfl,len _ (by simp),λk=>mP B hm rfl,num 0 _ (by decide),num 9 _ (by decide),λk=>jE B λk=>ni B rfl _ _,more _ (tv 0 0 (by lia)),more _ (tv (m-1) m (by lia)),more _ (tv 1 0 (by lia)),λk=>eZ B λk=>eF B rfl,len _ (by simp),λk=>eZ B λk=>eF B rfl,λk=>mP B hm rfl,one _ λk=>ny B λk=>by rw[jM B];rfl,num (-1) _ (by decide),more _ λk=>ny B λk=>eF B rfl,?_,λk=>jE B λk=>ni B rfl _ _,λk=>eZ B λk=>eF B rfl,one _ λk=>oO B rfl,num T _ hb,by simp⟩;intro k;refine ju B hm (ys:=[(.tup [.int 0,.int 1],decide (1<m)),(.tup [.int 0,.int 1],decide (1<m))]) rfl (by simp) (λy hy=>?_) ?_
  ·simp only[aG,br,or_false,or_self]at hy;rw[hy,nX B];simp
  ·refine .inr ?_;have:=rM B (k:=k+1) [.tup [.int 0,.int 1],.tup [.int 0,.int 1]] (by simp) (λ_=>false) λi q=>by
    have:i=0:=by simp at q;lia
    subst this;rfl
   rw[this];rfl
 obtain⟨d,e,hd⟩:=pick hL (n%22) ⟨by lia,by show n%22<22;lia⟩;refine⟨d,?_,hd⟩;rw[qc hf];refine qp (τ:=[some (.tup [.int m,.tup (ts.map prD)]),some (.int n),none,none,none]) rfl rfl ?_;have a1:∀x:D,op2 .add (.tup (ts.map prD)) (.tup [x])=.ok (.tup (ts.map prD++[x])):=λx=>kC _ _ (by simp[SZ];lia)
 have a2:b1 .list [.tup (ts.map prD)]=.ok (.lst (ts.map prD)):=rfl;have a3:op2 .mod (.int n) (.int 22)=.ok (.int (n%22)):=rfl;have a4:op2 .sub (.int m) (.int 1)=.ok (.int (m-1)):=rfl;have a5:∀xs ys:List D,xs.length+ys.length<=100->op2 .add (.lst xs) (.lst ys)=.ok (.lst (xs++ys)):=λxs ys q=>by rw[op2,if_pos ⟨rfl,by simp[SZ];lia⟩]
 generalize ts.map prD=TS at *;show qf _ (.cons _ (.cons _ (.cons _ (.cons _ (.cons _ .nil))))) _=_;refine zf (σ:=[some (.tup [.int m,.tup TS]),some (.int n),some (.int m),some (.tup TS),none]) (by simp[KG.Z]) ?_;refine zf (σ:=[some (.tup [.int m,.tup TS]),some (.int n),some (.int m),some (.tup TS),some (.lst ((cM m T TS).take 8))]) (by simp[KG.Z,a1,a2,cM]) ?_;refine zf (σ:=[some (.tup [.int m,.tup TS]),some (.int n),some (.int m),some (.tup TS),some (.lst ((cM m T TS).take 13))]) (by simp[KG.Z,a1,a4,a5,cM]) ?_;refine zf (σ:=[some (.tup [.int m,.tup TS]),some (.int n),some (.int m),some (.tup TS),some (.lst ((cM m T TS).take 18))]) (by simp[KG.Z,a1,a5,cM,za]) ?_;rw[qf,zF,qq];have f1:evE ⟨qa p k,p.glb,p.sub,p.cat,p.fld⟩ (.op .add (.var 4) (.lst (.cons (.tup (.cons (.con (.str "1")) (.cons (.tup .nil) .nil))) (.cons .dic (.cons (.tup (.cons (.var 2) (.cons (.tup (.cons (.tup (.cons (.con (.bl false)) (.cons (.con (.int 1)) .nil))) .nil)) .nil))) (.cons (.tup (.cons (.op .pow (.con (.int 10)) (.con (.int 30))) (.cons (.tup .nil) .nil))) .nil)))))) [some (.tup [.int m,.tup TS]),some (.int n),some (.int m),some (.tup TS),some (.lst ((cM m T TS).take 18))]=.ok (.lst (cM m T TS)):=by simp[KG.Z,hT,a5,cM,qy]
 rw[f1];have f2:evE ⟨qa p k,p.glb,p.sub,p.cat,p.fld⟩ (.op .mod (.var 1) (.con (.int 22))) [some (.tup [.int m,.tup TS]),some (.int n),some (.int m),some (.tup TS),some (.lst ((cM m T TS).take 18))]=.ok (.int (n%22)):=by simp[KG.Z,a3]
 rw[f2];simp only[R.bind_ok];rw[e];rfl
end
end KG
namespace K05
open PySem PySem.Spec PyProof.Rows L2 EV
noncomputable def top(i:Nat):Stmt:=PySem.Challenge.pw_holdplaces_k05_beside_and_crowned.main.body.getD i (.Pass ⟨0,0,0,0⟩)
abbrev fV:Fn:=KG.fV
abbrev zA:Fn:=KG.zA
abbrev eW:Fn:=KG.eW
abbrev fL:Fn:=KG.fL
abbrev dS:Fn:=KG.dS
abbrev zX:Fn:=KG.zX
abbrev eI:Fn:=KG.eI
noncomputable def fQ:Fn:=⟨2,4,false,(.cons (.exp (.call "need_web" (.cons (.var 0) .nil))) (.cons (.exp (.call "need_web" (.cons (.var 1) .nil))) (.cons (.set (.nm 2) (.ix (.var 0) (.con (.int 0)))) (.cons (.set (.nm 3) (.op .add (.var 2) (.ix (.var 1) (.con (.int 0))))) (.cons (.exp (.call "need_room" (.cons (.var 3) .nil))) (.cons (.ret (.call "web_of" (.cons (.var 3) (.cons (.op .add (.bi .list (.cons (.ix (.var 0) (.con (.int 1))) .nil)) (.comp (.seq (.ix (.var 1) (.con (.int 1)))) [none,none,none,some 2] (.tp [1,2]) .yes (.tup (.cons (.op .add (.var 3) (.var 1)) (.cons (.op .add (.var 3) (.var 2)) .nil))))) .nil)))) .nil))))))⟩
noncomputable def je:Fn:=⟨1,3,false,(.cons (.exp (.call "need_web" (.cons (.var 0) .nil))) (.cons (.set (.tp [1,2]) (.var 0)) (.cons (.exp (.call "need_room" (.cons (.op .mul (.con (.int 2)) (.var 1)) .nil))) (.cons (.ret (.call "web_of" (.cons (.op .mul (.con (.int 2)) (.var 1)) (.cons (.op .add (.bi .list (.cons (.var 2) .nil)) (.comp (.rng (.var 1)) [none,none,some 1] (.nm 1) .yes (.tup (.cons (.var 1) (.cons (.op .add (.var 2) (.var 1)) .nil))))) .nil)))) .nil))))⟩
noncomputable def jA:Fn:=⟨2,2,false,(.cons (.ret (.tup (.cons (.var 0) (.cons (.bi .tuple (.cons (.bi .sorted (.cons (.var 1) .nil)) .nil)) .nil)))) .nil)⟩
noncomputable def f_:Fn:=⟨1,1,false,(.cons (.ite (.cmp .gt (.var 0) (.glb "MOST")) (.cons (.raisF "TooGreat" (.cons (.var 0) (.cons (.glb "MOST") .nil))) .nil) .nil) .nil)⟩
noncomputable def kF:Fn:=⟨1,2,false,(.cons (.set (.nm 1) (.lst (.cons (.isi (.var 0) (.ex "NoWeb")) (.cons (.isi (.var 0) (.ex "NoPlaces")) (.cons (.isi (.var 0) (.ex "NoPlace")) (.cons (.isi (.var 0) (.ex "NoNumber")) .nil)))))) (.cons (.set (.nm 1) (.op .add (.var 1) (.lst (.cons (.isi (.var 0) (.ex "NotUntied")) (.cons (.isi (.var 0) (.ex "NoShares")) (.cons (.isi (.var 0) (.ex "NotTree")) (.cons (.isi (.var 0) (.ex "NotTold")) .nil))))))) (.cons (.set (.nm 1) (.op .add (.var 1) (.lst (.cons (.isi (.var 0) (.ex "NoCrowds")) (.cons (.isi (.var 0) (.ex "NoText")) (.cons (.isi (.var 0) (.ex "NoLine")) (.cons (.isi (.var 0) (.ex "NoDeed")) .nil))))))) (.cons (.set (.nm 1) (.op .add (.var 1) (.lst (.cons (.isi (.var 0) (.ex "NotAll")) (.cons (.isi (.var 0) (.ex "TooGreat")) .nil))))) (.cons (.ite (.or (.not (.val (.isi (.var 0) (.ty "ValueError")))) (.cmp .ne (.mth false (.var 1)) (.con (.int 1)))) (.cons (.ret (.neg (.con (.int 1)))) .nil) .nil) (.cons (.ret (.mth true (.var 1))) .nil))))))⟩
abbrev zY:Fn:=KG.zY
abbrev zv:Fn:=KG.zv
abbrev zZ:Fn:=KG.zZ
abbrev eE:Fn:=KG.eE
abbrev fD:Fn:=KG.fD
noncomputable def nO:Fn:=⟨3,4,false,(.cons (.try (.cons (.ret (.ite (.cmp .eq (.var 0) (.con (.int 0))) (.call "beside" (.cons (.var 1) (.cons (.var 2) .nil))) (.call "crowned" (.cons (.var 1) .nil)))) .nil) "PlaceError" (some 3) (.cons (.ite (.cmp .eq (.call "_law_kinds" (.cons (.var 3) .nil)) (.con (.int 13))) (.cons (.ret (.lst (.cons (.con (.str "great")) (.cons (.fld (.var 3) "many") (.cons (.fld (.var 3) "most") .nil))))) .nil) .nil) (.cons (.ret (.call "_law_kinds" (.cons (.var 3) .nil))) .nil))) .nil)⟩
noncomputable def iY:Fn:=⟨2,3,false,(.cons (.set (.nm 2) (.op .add (.ix (.var 0) (.con (.int 0))) (.ix (.var 1) (.con (.int 0))))) (.cons (.ite (.cmp .gt (.var 2) (.con (.int 8))) (.cons (.ret (.lst (.cons (.con (.str "great")) (.cons (.var 2) (.cons (.con (.int 8)) .nil))))) .nil) .nil) (.cons (.ret (.tup (.cons (.var 2) (.cons (.op .add (.ix (.var 0) (.con (.int 1))) (.bi .tuple (.cons (.comp (.seq (.ix (.var 1) (.con (.int 1)))) [none,none,none,some 0] (.tp [1,2]) .yes (.tup (.cons (.op .add (.ix (.var 3) (.con (.int 0))) (.var 1)) (.cons (.op .add (.ix (.var 3) (.con (.int 0))) (.var 2)) .nil)))) .nil))) .nil)))) .nil)))⟩
noncomputable def jy:Fn:=⟨1,2,false,(.cons (.set (.nm 1) (.ix (.var 0) (.con (.int 0)))) (.cons (.ite (.cmp .gt (.var 1) (.con (.int 4))) (.cons (.ret (.lst (.cons (.con (.str "great")) (.cons (.op .mul (.con (.int 2)) (.var 1)) (.cons (.con (.int 8)) .nil))))) .nil) .nil) (.cons (.ret (.tup (.cons (.op .mul (.con (.int 2)) (.var 1)) (.cons (.bi .tuple (.cons (.bi .sorted (.cons (.op .add (.bi .list (.cons (.ix (.var 0) (.con (.int 1))) .nil)) (.comp (.rng (.var 1)) [none,none,some 1] (.nm 1) .yes (.tup (.cons (.var 1) (.cons (.op .add (.var 2) (.var 1)) .nil))))) .nil)) .nil)) .nil)))) .nil)))⟩
noncomputable def fK:Fn:=⟨1,8,false,(.cons (.for (.nm 1) (.seq (.op .add (.sl (.var 0) .none (.some (.con (.int 6)))) (.lst (.cons (.con (.int 0)) (.cons (.con (.int 3)) (.cons (.con (.int 130)) .nil)))))) (.cons (.set (.nm 2) (.call "_law_web_by" (.cons (.op .add (.con (.int 1)) (.op .mod (.op .fdiv (.var 1) (.con (.int 64))) (.con (.int 8)))) (.cons (.op .fdiv (.var 1) (.con (.int 512))) .nil)))) (.cons (.set (.nm 3) (.call "_law_web_by" (.cons (.op .add (.con (.int 1)) (.op .mod (.call "_law_stir" (.cons (.var 1) (.cons (.con (.int 1)) .nil))) (.con (.int 8)))) (.cons (.call "_law_stir" (.cons (.var 1) (.cons (.con (.int 2)) .nil))) .nil)))) (.cons (.set (.nm 4) (.call "_law_web_by" (.cons (.op .add (.con (.int 1)) (.op .mod (.call "_law_stir" (.cons (.var 1) (.cons (.con (.int 3)) .nil))) (.con (.int 4)))) (.cons (.call "_law_stir" (.cons (.var 1) (.cons (.con (.int 4)) .nil))) .nil)))) (.cons (.for (.tp [5,6]) (.seq (.lst (.cons (.tup (.cons (.var 2) (.cons (.var 3) .nil))) (.cons (.tup (.cons (.var 3) (.cons (.var 2) .nil))) (.cons (.tup (.cons (.var 4) (.cons (.var 4) .nil))) (.cons (.tup (.cons (.var 2) (.cons (.tup (.cons (.con (.int 1)) (.cons (.tup .nil) .nil))) .nil))) (.cons (.tup (.cons (.tup (.cons (.con (.int 1)) (.cons (.tup .nil) .nil))) (.cons (.var 2) .nil))) .nil))))))) (.cons (.ite (.not (.val (.call "_law_same" (.cons (.call "_law_told" (.cons (.con (.int 0)) (.cons (.var 5) (.cons (.var 6) .nil)))) (.cons (.call "_law_both" (.cons (.var 5) (.cons (.var 6) .nil))) .nil))))) (.cons (.ret (.con (.bl false))) .nil) .nil) (.cons (.ite (.not (.val (.call "_law_same" (.cons (.call "_law_told" (.cons (.con (.int 1)) (.cons (.var 5) (.cons (.con .non) .nil)))) (.cons (.call "_law_crown" (.cons (.var 5) .nil)) .nil))))) (.cons (.ret (.con (.bl false))) .nil) .nil) .nil))) (.cons (.set (.nm 7) (.call "_law_no_web" (.cons (.var 2) (.cons (.call "_law_stir" (.cons (.var 1) (.cons (.con (.int 5)) .nil))) .nil)))) (.cons (.ite (.or (.cmp .ne (.call "_law_told" (.cons (.con (.int 0)) (.cons (.var 7) (.cons (.var 7) .nil)))) (.con (.int 0))) (.or (.cmp .ne (.call "_law_told" (.cons (.con (.int 0)) (.cons (.var 2) (.cons (.var 7) .nil)))) (.con (.int 0))) (.cmp .ne (.call "_law_told" (.cons (.con (.int 1)) (.cons (.var 7) (.cons (.con .non) .nil)))) (.con (.int 0))))) (.cons (.ret (.con (.bl false))) .nil) .nil) .nil))))))) (.cons (.ret (.con (.bl true))) .nil))⟩
abbrev pv:Ent:=⟨"is_whole",top 17,[],false,fV⟩
abbrev si:Ent:=⟨"is_between",top 18,[],false,zA⟩
abbrev uM:Ent:=⟨"is_pair",top 19,[],false,eW⟩
abbrev vK:Ent:=⟨"rises",top 20,[],false,fL⟩
abbrev AB:Ent:=⟨"is_web",top 23,[],false,dS⟩
abbrev uE:Ent:=⟨"is_tie",top 24,[],false,zX⟩
abbrev wj:Ent:=⟨"need_web",top 25,[],false,eI⟩
abbrev rL:Ent:=⟨"beside",top 27,[],false,fQ⟩
abbrev og:Ent:=⟨"crowned",top 28,[],false,je⟩
abbrev tw:Ent:=⟨"web_of",top 29,[],false,jA⟩
abbrev tL:Ent:=⟨"need_room",top 30,[],false,f_⟩
abbrev l7:Ent:=⟨"_law_kinds",top 32,[],false,kF⟩
abbrev w_:Ent:=⟨"_law_pairs",top 33,[],false,zY⟩
abbrev w9:Ent:=⟨"_law_stir",top 34,[],false,zv⟩
abbrev wY:Ent:=⟨"_law_web_by",top 35,[ah "_law_ties"],false,zZ⟩
abbrev oC:Ent:=⟨"_law_same",top 36,[],false,eE⟩
abbrev pq:Ent:=⟨"_law_no_web",top 37,[],false,fD⟩
abbrev oP:Ent:=⟨"_law_told",top 38,[],false,nO⟩
abbrev xI:Ent:=⟨"_law_both",top 39,[],false,iY⟩
abbrev rV:Ent:=⟨"_law_crown",top 40,[],false,jy⟩
abbrev fc:Ent:=⟨"law",top 41,[],false,fK⟩
abbrev tab:List Ent:=[pv,si,uM,vK,AB,uE,wj,rL,og,tw,tL,l7,w_,w9,wY,oC,pq,oP,xI,rV,fc]
abbrev oth:List (Str×GK):=[(ah "PlaceError",GK.exk),(ah "NoWeb",GK.exc),(ah "NoPlaces",GK.exk),(ah "NoPlace",GK.exk),(ah "NoNumber",GK.exk),(ah "NotAll",GK.exk),(ah "NotUntied",GK.exk),(ah "NoShares",GK.exk),(ah "NotTree",GK.exk),(ah "NotTold",GK.exk),(ah "NoCrowds",GK.exk),(ah "NoText",GK.exk),(ah "NoLine",GK.exk),(ah "NoDeed",GK.exk),(ah "TooGreat",GK.exf),(ah "MOST",GK.val),(ah "len",GK.bi .len),(ah "tuple",GK.ty "tuple" (some .tuple)),(ah "list",GK.ty "list" (some .list)),(ah "int",GK.ty "int" (some .int)),(ah "bool",GK.ty "bool" (some .bool)),(ah "str",GK.ty "str" none),(ah "sorted",GK.bi .sorted),(ah "all",GK.bi .all),(ah "range",GK.rng),(ah "enumerate",GK.enum),(ah "zip",GK.zip),(ah "isinstance",GK.isi),(ah "ValueError",GK.ty "ValueError" none)]
abbrev vals:List (Str×D):=[(ah "MOST",(.int 8))]
abbrev G:List (Str×GK):=tab.map (λe=>(e.x,GK.fn e.fr))++oth
abbrev cb:List (Str×Str):=[(ah "NoWeb",ah "PlaceError"),(ah "TooGreat",ah "PlaceError")]
abbrev us:List Ent:=[l7]
abbrev subs:List ((Str×Cl)×Bool):=[((ah "NoWeb",.ty "ValueError"),true),((ah "NoWeb",.ex (ah "NoWeb")),true),((ah "NoWeb",.ex (ah "NoPlaces")),false),((ah "NoWeb",.ex (ah "NoPlace")),false),((ah "NoWeb",.ex (ah "NoNumber")),false),((ah "NoWeb",.ex (ah "NotUntied")),false),((ah "NoWeb",.ex (ah "NoShares")),false),((ah "NoWeb",.ex (ah "NotTree")),false),((ah "NoWeb",.ex (ah "NotTold")),false),((ah "NoWeb",.ex (ah "NoCrowds")),false),((ah "NoWeb",.ex (ah "NoText")),false),((ah "NoWeb",.ex (ah "NoLine")),false),((ah "NoWeb",.ex (ah "NoDeed")),false),((ah "NoWeb",.ex (ah "NotAll")),false),((ah "NoWeb",.ex (ah "TooGreat")),false),((ah "TooGreat",.ty "ValueError"),true),((ah "TooGreat",.ex (ah "NoWeb")),false),((ah "TooGreat",.ex (ah "NoPlaces")),false),((ah "TooGreat",.ex (ah "NoPlace")),false),((ah "TooGreat",.ex (ah "NoNumber")),false),((ah "TooGreat",.ex (ah "NotUntied")),false),((ah "TooGreat",.ex (ah "NoShares")),false),((ah "TooGreat",.ex (ah "NotTree")),false),((ah "TooGreat",.ex (ah "NotTold")),false),((ah "TooGreat",.ex (ah "NoCrowds")),false),((ah "TooGreat",.ex (ah "NoText")),false),((ah "TooGreat",.ex (ah "NoLine")),false),((ah "TooGreat",.ex (ah "NoDeed")),false),((ah "TooGreat",.ex (ah "NotAll")),false),((ah "TooGreat",.ex (ah "TooGreat")),true)]
abbrev zz:List (Str×List Str):=[(ah "TooGreat",[ah "many",ah "most"])]
abbrev p:Pr:=prT tab vals cb subs zz
theorem gR:p.fns "beside" = some fQ:=by kernel_rfl
theorem iJ:p.fns "crowned" = some je:=by kernel_rfl
theorem ou:p.fns "web_of" = some jA:=by kernel_rfl
theorem mw:p.fns "need_room" = some f_:=by kernel_rfl
theorem my:p.fns "_law_kinds" = some kF:=by kernel_rfl
theorem ig:p.fns "_law_told" = some nO:=by kernel_rfl
theorem lM:p.fns "_law_both" = some iY:=by kernel_rfl
theorem m_:p.fns "_law_crown" = some jy:=by kernel_rfl
theorem xF:p.fns "law" = some fK:=by kernel_rfl
end K05
namespace K05
open EV KG
open PySem (Str)
open L2 (atI ixN ltP)
theorem B:Web p:=⟨by kernel_rfl,by kernel_rfl,by kernel_rfl,by kernel_rfl,by kernel_rfl,by kernel_rfl,by kernel_rfl,by kernel_rfl⟩
theorem nj:p.fns "_law_stir" = some KG.zv:=by kernel_rfl
theorem uS:p.fns "_law_pairs" = some KG.zY:=by kernel_rfl
theorem hBy:p.fns "_law_web_by" = some KG.zZ:=by kernel_rfl
theorem eD:p.fns "_law_same" = some KG.eE:=by kernel_rfl
theorem hNW:p.fns "_law_no_web" = some KG.fD:=by kernel_rfl
theorem mQ{w:W}{it:It}{cap:List (Option Nat)}{t:T}{elt:E}{τ c:Env}{l:List (Int×Int)}(q:Int×Int->Bool)(g:Int×Int->D)(h:evI w it τ=.ok (l.map prD))(hz:l.length<=SZ)(hc:cP cap τ=none::none::none::c)
  (hb:∀x∈l,evT w t (none::some (.int x.1)::some (.int x.2)::c)=.ok (q x)/\evE w elt (none::some (.int x.1)::some (.int x.2)::c)=.ok (g x)):evE w (.comp it cap (.tp [1,2]) t elt) τ=.ok (.lst ((l.filter q).map g)):=by
 have e:=comp2 (g:=λd=>match d with | .tup [.int a,.int b]=>(if q (a,b)then [g (a,b)]else [])|_=>[]) h (by simpa using hz) hc (t:=t) (elt:=elt) λx hx=>by
  obtain⟨y,hy,rfl⟩:=bj.mp hx;refine⟨.int y.1,.int y.2,rfl,?_⟩;rw[(hb y hy).1];simp only[R.bind_ok];cases z:q y with
  |true=>rw[if_pos rfl,(hb y hy).2];simp[prD,pairD,z]
  |false=>simp[prD,pairD,z]
 rw[e]
 congr 2
 clear e h hz hb
 induction l with
 |nil=>rfl
 |cons x r ih=>
  rw[bt,List.flatMap_cons,ih,List.filter_cons];cases z:q x<;>simp[prD,pairD,z]
theorem fS{w:W}{f:Fn}{ds:List D}{c:Xc}{τ:Env}(hl:ds.length=f.ps)(hτ:ds.map some++bD (f.N-f.ps) none=τ)(h:qf w f.body τ=.ex c):zJ w f ds=.ex c:=by
 rw[zJ,if_pos hl,hτ,h]
theorem jd{k:Nat}(l:List D)(h:∀d∈l,qa p k "_law_same" [d,d]=.ok (.bl true)):qa p (k+1) "_law_same" [.tup l,.tup l]=.ok (.bl true):=by
 have z:ql .is (.tup l) .non=.ok false:=rfl;have i1:∀w:W,zM w (.tup l) (.ty "bool")=.ok (.bl false):=λ_=>rfl
 have i2:∀w:W,zM w (.tup l) (.ty "int")=.ok (.bl false):=λ_=>rfl
 have i3:∀w:W,zM w (.tup l) (.ty "str")=.ok (.bl false):=λ_=>rfl
 have i4:∀w:W,zM w (.tup l) (.ty "list")=.ok (.bl false):=λ_=>rfl
 have i5:∀w:W,zM w (.tup l) (.ty "tuple")=.ok (.bl true):=λ_=>rfl
 have bl:b1 .len [.tup l]=.ok (.int (l.length:Int)):=rfl;have nl:=ne_int (l.length:Int) (l.length:Int);rw[decide_eq_true rfl]at nl;have zi:evI (wAt p k) (.zip (.var 0) (.var 1)) [some (.tup l),some (.tup l),none,none]=.ok (zW l l):=by
  rw[evI];show (if l.length=l.length then R.ok (zW l l)else .no)=_;rw[if_pos rfl]
 rw[qc eD];refine qp (τ:=[some (.tup l),some (.tup l),none,none]) rfl rfl ?_;refine zf (σ:=[some (.tup l),some (.tup l),none,none]) (by
  generalize D.tup l=U at *;simp[KG.Z,z]) ?_
 refine zf (σ:=[some (.tup l),some (.tup l),none,none]) (by
  generalize D.tup l=U at *;simp[KG.Z,i1]) ?_
 refine zf (σ:=[some (.tup l),some (.tup l),none,none]) (by
  generalize D.tup l=U at *;simp[KG.Z,i2]) ?_
 refine zf (σ:=[some (.tup l),some (.tup l),none,none]) (by
  generalize D.tup l=U at *;simp[KG.Z,i3]) ?_
 refine zf (σ:=[some (.tup l),some (.tup l),none,none]) (by
  generalize D.tup l=U at *;simp[KG.Z,i4,i5,kT]) ?_
 refine zf (σ:=[some (.tup l),some (.tup l),none,none]) (by
  generalize D.tup l=U at *;generalize (l.length:Int)=N at *;simp[KG.Z,bl,nl]) ?_
 refine mK (ds:=zW l l) (λr σ=>∃(ms:List D) (v u:Option D),(∀d∈ms,d∈l)/\r=zW ms ms/\σ=[some (.tup l),some (.tup l),v,u]) zi ⟨l,none,none,λ_ z=>z,rfl,rfl⟩ ?_ ?_
 ·rintro x t σ ⟨ms,v,u,hm,e,rfl⟩;cases ms with
  |nil=>cases e
  |cons y ms=>
   rw[zW]at e;injection e with e1 e2
   subst e1 e2;have hy:=h y (hm y aL);exact⟨[some (.tup l),some (.tup l),some y,some y],[some (.tup l),some (.tup l),some y,some y],rfl,by simp[KG.Z,hy],ms,_,_,λd hd=>hm d (aI _ hd),rfl,rfl⟩
 ·rintro σ ⟨ms,v,u,hm,e,rfl⟩;simp[KG.Z]
theorem xS{k:Nat}(l:List D)(h:∀d∈l,qa p k "_law_same" [d,d]=.ok (.bl true)):qa p (k+1) "_law_same" [.lst l,.lst l]=.ok (.bl true):=by
 have z:ql .is (.lst l) .non=.ok false:=rfl;have i1:∀w:W,zM w (.lst l) (.ty "bool")=.ok (.bl false):=λ_=>rfl
 have i2:∀w:W,zM w (.lst l) (.ty "int")=.ok (.bl false):=λ_=>rfl
 have i3:∀w:W,zM w (.lst l) (.ty "str")=.ok (.bl false):=λ_=>rfl
 have i4:∀w:W,zM w (.lst l) (.ty "list")=.ok (.bl true):=λ_=>rfl
 have i5:∀w:W,zM w (.lst l) (.ty "tuple")=.ok (.bl false):=λ_=>rfl
 have bl:b1 .len [.lst l]=.ok (.int (l.length:Int)):=rfl;have nl:=ne_int (l.length:Int) (l.length:Int);rw[decide_eq_true rfl]at nl;have zi:evI (wAt p k) (.zip (.var 0) (.var 1)) [some (.lst l),some (.lst l),none,none]=.ok (zW l l):=by
  rw[evI];show (if l.length=l.length then R.ok (zW l l)else .no)=_;rw[if_pos rfl]
 rw[qc eD];refine qp (τ:=[some (.lst l),some (.lst l),none,none]) rfl rfl ?_;refine zf (σ:=[some (.lst l),some (.lst l),none,none]) (by
  generalize D.lst l=U at *;simp[KG.Z,z]) ?_
 refine zf (σ:=[some (.lst l),some (.lst l),none,none]) (by
  generalize D.lst l=U at *;simp[KG.Z,i1]) ?_
 refine zf (σ:=[some (.lst l),some (.lst l),none,none]) (by
  generalize D.lst l=U at *;simp[KG.Z,i2]) ?_
 refine zf (σ:=[some (.lst l),some (.lst l),none,none]) (by
  generalize D.lst l=U at *;simp[KG.Z,i3]) ?_
 refine zf (σ:=[some (.lst l),some (.lst l),none,none]) (by
  generalize D.lst l=U at *;simp[KG.Z,i4,i5,kT]) ?_
 refine zf (σ:=[some (.lst l),some (.lst l),none,none]) (by
  generalize D.lst l=U at *;generalize (l.length:Int)=N at *;simp[KG.Z,bl,nl]) ?_
 refine mK (ds:=zW l l) (λr σ=>∃(ms:List D) (v u:Option D),(∀d∈ms,d∈l)/\r=zW ms ms/\σ=[some (.lst l),some (.lst l),v,u]) zi ⟨l,none,none,λ_ z=>z,rfl,rfl⟩ ?_ ?_
 ·rintro x t σ ⟨ms,v,u,hm,e,rfl⟩;cases ms with
  |nil=>cases e
  |cons y ms=>
   rw[zW]at e;injection e with e1 e2
   subst e1 e2;have hy:=h y (hm y aL);exact⟨[some (.lst l),some (.lst l),some y,some y],[some (.lst l),some (.lst l),some y,some y],rfl,by simp[KG.Z,hy],ms,_,_,λd hd=>hm d (aI _ hd),rfl,rfl⟩
 ·rintro σ ⟨ms,v,u,hm,e,rfl⟩;simp[KG.Z]
theorem ua{a b:Int×Int}(h:ltP a b=true):ltP b a=false:=by
 simp only[ltP]at h ⊢;by_cases e:a.1=b.1
 ·rw[if_pos e]at h;rw[if_pos e.symm];simp at h ⊢;lia
 ·rw[if_neg e]at h;rw[if_neg (λz=>e z.symm)];simp at h ⊢;lia
theorem lF:∀{l:List (Int×Int)},l.Pairwise (λa b=>ltP a b=true)->zl l=l
 | [],_=>rfl
 | [a],_=>rfl
 |a::b::r,h=>by
  obtain⟨h1,h2⟩:=List.pairwise_cons.mp h;rw[zl,lF h2,dR,ua (h1 b aL)]
  rfl
noncomputable def mv(n:Int)(us:List (Int×Int)):List (Int×Int):=us.map λu=>(n+u.1,n+u.2)
noncomputable def cr(n:Int):List (Int×Int):=(rng n).map λi=>(i,n+i)
noncomputable def great(i:Int):D:=.lst [.str "great",.int i,.int 8]
theorem sE{n m:Int}{ts us:List (Int×Int)}(h:GW n ts)(g:GW m us):(ts++mv n us).Pairwise λa b=>ltP a b=true:=by
 rw[List.pairwise_append];refine⟨h.lt,?_,λa ha b hb=>?_⟩
 ·rw[mv,List.pairwise_map];refine g.lt.imp λ{x y} z=>?_
  obtain⟨a,b⟩:=x;obtain⟨c,d⟩:=y;simp only[ltP]at z ⊢;by_cases e:a=c
  ·subst e;rw[if_pos rfl]at z ⊢;simp at z ⊢;lia
  ·rw[if_neg e]at z;rw[if_neg (by lia)];simp at z ⊢;lia
 ·obtain⟨u,hu,rfl⟩:=bj.mp hb;have h1:=h.ok a ha;have h2:=g.ok u hu;simp only[ltP];rw[if_neg (by lia)];simp;lia
theorem gt_int(a b:Int):ql .gt (.int a) (.int b)=.ok (decide (b<a)):=rfl
section
variable{k:Nat}
theorem mC{n:Int}{l:List (Int×Int)}(hl:l.length<64):qa p (k+1) "web_of" [.int n,.lst (l.map prD)]=.ok (wb n (zl l)):=by
 have e1:=nR l hl;have e2:b1 .tuple [.lst ((zl l).map prD)]=.ok (.tup ((zl l).map prD)):=rfl;generalize D.lst (l.map prD)=L1 at *;generalize D.lst ((zl l).map prD)=L2 at *;rw[qc ou];refine qp rfl rfl ?_;simp[KG.Z,jA,e1,e2]
theorem m8{n:Int}(h:n<=8):qa p (k+1) "need_room" [.int n]=.ok .non:=by
 have e:ql .gt (.int n) (.int 8)=.ok false:=by rw[gt_int,decide_eq_false (by lia)]
 rw[qc mw];simp only[zJ];simp[KG.Z,f_,B.MOST,e]
theorem lT{n:Int}(h:8<n):qa p (k+1) "need_room" [.int n]=.ex ⟨"TooGreat",[("many",n),("most",8)]⟩:=by
 have e:ql .gt (.int n) (.int 8)=.ok true:=by rw[gt_int,decide_eq_true h]
 have e4:p.fld "TooGreat" = some [ah "many",ah "most"]:=by kernel_rfl
 have e5:gQ [ah "many",ah "most"] "TooGreat" [.int n,.int 8]=.ex ⟨"TooGreat",[("many",n),("most",8)]⟩:=rfl;rw[qc mw];simp only[zJ];simp[KG.Z,f_,zI,B.MOST,e,e4,e5]
section
variable{n m:Int}{ts us:List (Int×Int)}(h:GW n ts)(g:GW m us)
include h
theorem xh{w:W}:evE w (.comp (.rng (.var 1)) [none,none,some 1] (.nm 1) .yes (.tup (.cons (.var 1) (.cons (.op .add (.var 2) (.var 1)) .nil)))) [some (wb n ts),some (.int n),some (.tup (ts.map prD))]=.ok (.lst ((cr n).map prD)):=by
 have:=h.hi;have:=h.lo;rw[cr,List.map_map];refine gK (f:=D.int) (c:=[some (.int n)]) (λi=>prD (i,n+i)) ?_ (by rw[iG];simp only[SZ];lia) rfl λi _=>?_
 ·rw[<-gx,evI];show (if zh n then R.ok (zC 0 n.toNat)else .no)=_;rw[if_pos (by simp[zh];lia)]
 ·simp[KG.Z,op2,opI];rfl
theorem xW{w:W}:evE w (.comp (.rng (.var 1)) [none,none,some 1] (.nm 1) .yes (.tup (.cons (.var 1) (.cons (.op .add (.var 2) (.var 1)) .nil)))) [some (wb n ts),some (.int n)]=.ok (.lst ((cr n).map prD)):=by
 have:=h.hi;have:=h.lo;rw[cr,List.map_map];refine gK (f:=D.int) (c:=[some (.int n)]) (λi=>prD (i,n+i)) ?_ (by rw[iG];simp only[SZ];lia) rfl λi _=>?_
 ·rw[<-gx,evI];show (if zh n then R.ok (zC 0 n.toNat)else .no)=_;rw[if_pos (by simp[zh];lia)]
 ·simp[KG.Z,op2,opI];rfl
theorem iy:(ts++cr n).length<64:=by
 have:=h.hi;have:=h.lo;have:=h.len;rw[b_,cr,aW,iG];lia
theorem o2:op2 .add (.lst (ts.map prD)) (.lst ((cr n).map prD))=.ok (.lst ((ts++cr n).map prD)):=by
 have:=iy h;rw[op2,if_pos ⟨rfl,by rw[b_]at this;rw[aW,aW];simp only[SZ];lia⟩,List.map_append]
theorem wt(hn:n<=4):qa p (k+5) "crowned" [wb n ts]=.ok (wb (2 * n) (zl (ts++cr n))):=by
 have z1:=need_web B (k:=k) h;have z2:=m8 (k:=k+3) (n:=2 * n) (by lia);have z3:=mC (k:=k+3) (n:=2 * n) (iy h);have o1:op2 .mul (.int 2) (.int n)=.ok (.int (2 * n)):=by
  show opI .mul 2 n=_;rw[opI,if_pos (by rfl)]
 have hc:=xh (w:=⟨qa p (k+4),p.glb,p.sub,p.cat,p.fld⟩) h;have o2:=o2 h;have o3:b1 .list [.tup (ts.map prD)]=.ok (.lst (ts.map prD)):=rfl;rw[qc iJ];refine qp (τ:=[some (wb n ts),none,none]) rfl rfl ?_;show qf _ (.cons (.exp _) (.cons (.set (.tp [1,2]) (.var 0)) (.cons (.exp _) (.cons (.ret (.call "web_of" (.cons (.op .mul _ _) (.cons (.op .add (.bi .list (.cons (.var 2) .nil)) _) .nil)))) .nil)))) _=_;refine zf (σ:=[some (wb n ts),none,none]) (by
  generalize wb n ts=WB at *;simp[KG.Z,z1]) ?_
 refine zf (σ:=[some (wb n ts),some (.int n),some (.tup (ts.map prD))]) rfl ?_;refine zf (σ:=[some (wb n ts),some (.int n),some (.tup (ts.map prD))]) (by
  generalize wb n ts=WB at *;simp[KG.Z,o1,z2]) ?_
 generalize hE:EV.E.comp (.rng (.var 1)) [none,none,some 1] (.nm 1) .yes (.tup (.cons (.var 1) (.cons (.op .add (.var 2) (.var 1)) .nil)))=EE at *;generalize wb (2 * n) (zl (ts++cr n))=WR at *;generalize wb n ts=WB at *;generalize D.lst ((ts++cr n).map prD)=L1 at *;generalize D.lst ((cr n).map prD)=L2 at *;generalize D.lst (ts.map prD)=L3 at *;generalize D.tup (ts.map prD)=L4 at *;simp[KG.Z,o1,o2,o3,hc,z3]
theorem sR(hn:4<n):qa p (k+5) "crowned" [wb n ts]=.ex ⟨"TooGreat",[("many",2 * n),("most",8)]⟩:=by
 have z1:=need_web B (k:=k) h;have z2:=lT (k:=k+3) (n:=2 * n) (by lia);have o1:op2 .mul (.int 2) (.int n)=.ok (.int (2 * n)):=by
  show opI .mul 2 n=_;rw[opI,if_pos (by rfl)]
 rw[qc iJ];refine fS (τ:=[some (wb n ts),none,none]) rfl rfl ?_;show qf _ (.cons (.exp _) (.cons (.set (.tp [1,2]) (.var 0)) (.cons (.exp _) _))) _=_;refine zf (σ:=[some (wb n ts),none,none]) (by
  generalize wb n ts=WB at *;simp[KG.Z,z1]) ?_
 refine zf (σ:=[some (wb n ts),some (.int n),some (.tup (ts.map prD))]) rfl ?_;generalize wb n ts=WB at *;simp[KG.Z,o1,z2]
theorem rK(hn:n<=4):qa p (k+1) "_law_crown" [wb n ts]=.ok (wb (2 * n) (zl (ts++cr n))):=by
 have i1:ixD (wb n ts) (.int 0)=.ok (.int n):=rfl;have i3:ixD (wb n ts) (.int 1)=.ok (.tup (ts.map prD)):=rfl;have c1:ql .gt (.int n) (.int 4)=.ok false:=by rw[gt_int,decide_eq_false (by lia)]
 have o1:op2 .mul (.int 2) (.int n)=.ok (.int (2 * n)):=by
  show opI .mul 2 n=_;rw[opI,if_pos (by rfl)]
 have hc:=xW (w:=⟨qa p k,p.glb,p.sub,p.cat,p.fld⟩) h;have o2:=o2 h;have o3:b1 .list [.tup (ts.map prD)]=.ok (.lst (ts.map prD)):=rfl;have e1:=nR (ts++cr n) (iy h);have e2:b1 .tuple [.lst ((zl (ts++cr n)).map prD)]=.ok (.tup ((zl (ts++cr n)).map prD)):=rfl;rw[qc m_];refine qp (τ:=[some (wb n ts),none]) rfl rfl ?_;show qf _ (.cons (.set (.nm 1) _) (.cons (.ite _ _ .nil) (.cons (.ret (.tup (.cons (.op .mul _ _) (.cons (.bi .tuple (.cons (.bi .sorted (.cons (.op .add (.bi .list (.cons (.ix (.var 0) (.con (.int 1))) .nil)) _) .nil)) .nil)) .nil)))) .nil))) _=_;refine zf (σ:=[some (wb n ts),some (.int n)]) (by
  generalize wb n ts=WB at *;simp[KG.Z,i1]) ?_
 refine zf (σ:=[some (wb n ts),some (.int n)]) (by simp[KG.Z,c1]) ?_;have r:wb (2 * n) (zl (ts++cr n))=.tup [.int (2 * n),.tup ((zl (ts++cr n)).map prD)]:=rfl;rw[r];generalize hE:EV.E.comp (.rng (.var 1)) [none,none,some 1] (.nm 1) .yes (.tup (.cons (.var 1) (.cons (.op .add (.var 2) (.var 1)) .nil)))=EE at *;generalize wb n ts=WB at *;generalize D.tup ((zl (ts++cr n)).map prD)=LR at *;generalize D.lst ((zl (ts++cr n)).map prD)=L0 at *;generalize D.lst ((ts++cr n).map prD)=L1 at *;generalize D.lst ((cr n).map prD)=L2 at *;generalize D.lst (ts.map prD)=L3 at *;generalize D.tup (ts.map prD)=L4 at *;simp[KG.Z,i3,o1,o2,o3,hc,e1,e2]
theorem wV(hn:4<n):qa p (k+1) "_law_crown" [wb n ts]=.ok (great (2 * n)):=by
 have i1:ixD (wb n ts) (.int 0)=.ok (.int n):=rfl;have c1:ql .gt (.int n) (.int 4)=.ok true:=by rw[gt_int,decide_eq_true hn]
 have o1:op2 .mul (.int 2) (.int n)=.ok (.int (2 * n)):=by
  show opI .mul 2 n=_;rw[opI,if_pos (by rfl)]
 rw[qc m_];refine qp (τ:=[some (wb n ts),none]) rfl rfl ?_;generalize wb n ts=WB at *;simp[KG.Z,jy,i1,c1,o1,great]
include g
theorem jD:(ts++mv n us).length<64:=by
 have:=h.len;have:=g.len;rw[b_,mv,aW];lia
theorem o2m:op2 .add (.lst (ts.map prD)) (.lst ((mv n us).map prD))=.ok (.lst ((ts++mv n us).map prD)):=by
 have:=jD h g;rw[op2,if_pos ⟨rfl,by rw[b_]at this;rw[aW,aW];simp only[SZ];lia⟩,List.map_append]
theorem oU{w:W}:evE w (.comp (.seq (.ix (.var 1) (.con (.int 1)))) [none,none,none,some 2] (.tp [1,2]) .yes (.tup (.cons (.op .add (.var 3) (.var 1)) (.cons (.op .add (.var 3) (.var 2)) .nil)))) [some (wb n ts),some (wb m us),some (.int n),some (.int (n+m))]=.ok (.lst ((mv n us).map prD)):=by
 have:=g.len;have e:=mQ (w:=w) (it:=.seq (.ix (.var 1) (.con (.int 1)))) (cap:=[none,none,none,some 2]) (t:=.yes) (elt:=.tup (.cons (.op .add (.var 3) (.var 1)) (.cons (.op .add (.var 3) (.var 2)) .nil))) (τ:=[some (wb n ts),some (wb m us),some (.int n),some (.int (n+m))]) (c:=[some (.int n)]) (l:=us) (λ_=>true) (λu=>prD (n+u.1,n+u.2)) (iT (by rw[qq];rfl)) (by simp only[SZ];lia) rfl λt _=>⟨rfl,by simp[KG.Z,op2,opI];rfl⟩
 rw[e,List.filter_eq_self.mpr (by simp),mv,List.map_map];rfl
theorem oF{w:W}:evE w (.comp (.seq (.ix (.var 1) (.con (.int 1)))) [none,none,none,some 0] (.tp [1,2]) .yes (.tup (.cons (.op .add (.ix (.var 3) (.con (.int 0))) (.var 1)) (.cons (.op .add (.ix (.var 3) (.con (.int 0))) (.var 2)) .nil)))) [some (wb n ts),some (wb m us),some (.int (n+m))]=.ok (.lst ((mv n us).map prD)):=by
 have:=g.len;have i1:ixD (wb n ts) (.int 0)=.ok (.int n):=rfl;have e:=mQ (w:=w) (it:=.seq (.ix (.var 1) (.con (.int 1)))) (cap:=[none,none,none,some 0]) (t:=.yes) (elt:=.tup (.cons (.op .add (.ix (.var 3) (.con (.int 0))) (.var 1)) (.cons (.op .add (.ix (.var 3) (.con (.int 0))) (.var 2)) .nil))) (τ:=[some (wb n ts),some (wb m us),some (.int (n+m))]) (c:=[some (wb n ts)]) (l:=us) (λ_=>true) (λu=>prD (n+u.1,n+u.2)) (iT (by rw[qq];rfl)) (by simp only[SZ];lia) rfl λt _=>⟨rfl,by
  generalize wb n ts=WB at *;simp[KG.Z,op2,opI,i1];rfl⟩
 rw[e,List.filter_eq_self.mpr (by simp),mv,List.map_map];rfl
theorem xx(hz:n+m<=8):qa p (k+5) "beside" [wb n ts,wb m us]=.ok (wb (n+m) (ts++mv n us)):=by
 have z0:=need_web B (k:=k) h;have z1:=need_web B (k:=k) g;have z2:=m8 (k:=k+3) (n:=n+m) hz;have z3:=mC (k:=k+3) (n:=n+m) (jD h g);rw[lF (sE h g)]at z3;have i1:ixD (wb n ts) (.int 0)=.ok (.int n):=rfl;have i2:ixD (wb m us) (.int 0)=.ok (.int m):=rfl;have i3:ixD (wb n ts) (.int 1)=.ok (.tup (ts.map prD)):=rfl;have o1:op2 .add (.int n) (.int m)=.ok (.int (n+m)):=rfl;have hc:=oU (w:=⟨qa p (k+4),p.glb,p.sub,p.cat,p.fld⟩) h g;have o2:=o2m h g;have o3:b1 .list [.tup (ts.map prD)]=.ok (.lst (ts.map prD)):=rfl;rw[qc gR];refine qp (τ:=[some (wb n ts),some (wb m us),none,none]) rfl rfl ?_;show qf _ (.cons (.exp _) (.cons (.exp _) (.cons (.set (.nm 2) _) (.cons (.set (.nm 3) _) (.cons (.exp _) (.cons (.ret (.call "web_of" (.cons (.var 3) (.cons (.op .add (.bi .list (.cons (.ix (.var 0) (.con (.int 1))) .nil)) _) .nil)))) .nil)))))) _=_;refine zf (σ:=[some (wb n ts),some (wb m us),none,none]) (by
  generalize wb n ts=WB at *;generalize wb m us=WC at *;simp[KG.Z,z0]) ?_
 refine zf (σ:=[some (wb n ts),some (wb m us),none,none]) (by
  generalize wb n ts=WB at *;generalize wb m us=WC at *;simp[KG.Z,z1]) ?_
 refine zf (σ:=[some (wb n ts),some (wb m us),some (.int n),none]) (by
  generalize wb n ts=WB at *;generalize wb m us=WC at *;simp[KG.Z,i1]) ?_
 refine zf (σ:=[some (wb n ts),some (wb m us),some (.int n),some (.int (n+m))]) (by
  generalize wb n ts=WB at *;generalize wb m us=WC at *;simp[KG.Z,i2,o1]) ?_
 refine zf (σ:=[some (wb n ts),some (wb m us),some (.int n),some (.int (n+m))]) (by
  generalize wb n ts=WB at *;generalize wb m us=WC at *;simp[KG.Z,z2]) ?_
 generalize hE:EV.E.comp (.seq (.ix (.var 1) (.con (.int 1)))) [none,none,none,some 2] (.tp [1,2]) .yes (.tup (.cons (.op .add (.var 3) (.var 1)) (.cons (.op .add (.var 3) (.var 2)) .nil)))=EE at *;generalize wb (n+m) (ts++mv n us)=WR at *;generalize wb n ts=WB at *;generalize wb m us=WC at *;generalize D.lst ((ts++mv n us).map prD)=L1 at *;generalize D.lst ((mv n us).map prD)=L2 at *;generalize D.lst (ts.map prD)=L3 at *;generalize D.tup (ts.map prD)=L4 at *;simp[KG.Z,i3,o2,o3,hc,z3]
theorem x6(hz:8<n+m):qa p (k+5) "beside" [wb n ts,wb m us]=.ex ⟨"TooGreat",[("many",n+m),("most",8)]⟩:=by
 have z0:=need_web B (k:=k) h;have z1:=need_web B (k:=k) g;have z2:=lT (k:=k+3) (n:=n+m) hz;have i1:ixD (wb n ts) (.int 0)=.ok (.int n):=rfl;have i2:ixD (wb m us) (.int 0)=.ok (.int m):=rfl;have o1:op2 .add (.int n) (.int m)=.ok (.int (n+m)):=rfl;rw[qc gR];refine fS (τ:=[some (wb n ts),some (wb m us),none,none]) rfl rfl ?_;generalize wb n ts=WB at *;generalize wb m us=WC at *;simp[KG.Z,fQ,z0,z1,i1,i2,o1,z2]
theorem AK(hz:n+m<=8):qa p (k+1) "_law_both" [wb n ts,wb m us]=.ok (wb (n+m) (ts++mv n us)):=by
 have i1:ixD (wb n ts) (.int 0)=.ok (.int n):=rfl;have i2:ixD (wb m us) (.int 0)=.ok (.int m):=rfl;have i3:ixD (wb n ts) (.int 1)=.ok (.tup (ts.map prD)):=rfl;have o1:op2 .add (.int n) (.int m)=.ok (.int (n+m)):=rfl;have c1:ql .gt (.int (n+m)) (.int 8)=.ok false:=by rw[gt_int,decide_eq_false (by lia)]
 have hc:=oF (w:=⟨qa p k,p.glb,p.sub,p.cat,p.fld⟩) h g;have e2:b1 .tuple [.lst ((mv n us).map prD)]=.ok (.tup ((mv n us).map prD)):=rfl;have o2:op2 .add (.tup (ts.map prD)) (.tup ((mv n us).map prD))=.ok (.tup ((ts++mv n us).map prD)):=by
  have:=jD h g;rw[kC _ _ (by rw[b_]at this;rw[aW,aW];simp only[SZ];lia),List.map_append]
 rw[qc lM];refine qp (τ:=[some (wb n ts),some (wb m us),none]) rfl rfl ?_;show qf _ (.cons (.set (.nm 2) _) (.cons (.ite _ _ .nil) (.cons (.ret (.tup (.cons (.var 2) (.cons (.op .add (.ix (.var 0) (.con (.int 1))) (.bi .tuple (.cons _ .nil))) .nil)))) .nil))) _=_;refine zf (σ:=[some (wb n ts),some (wb m us),some (.int (n+m))]) (by
  generalize wb n ts=WB at *;generalize wb m us=WC at *;simp[KG.Z,i1,i2,o1]) ?_
 refine zf (σ:=[some (wb n ts),some (wb m us),some (.int (n+m))]) (by simp[KG.Z,c1]) ?_;have r:wb (n+m) (ts++mv n us)=.tup [.int (n+m),.tup ((ts++mv n us).map prD)]:=rfl;rw[r];generalize hE:EV.E.comp (.seq (.ix (.var 1) (.con (.int 1)))) [none,none,none,some 0] (.tp [1,2]) .yes (.tup (.cons (.op .add (.ix (.var 3) (.con (.int 0))) (.var 1)) (.cons (.op .add (.ix (.var 3) (.con (.int 0))) (.var 2)) .nil)))=EE at *;generalize wb n ts=WB at *;generalize wb m us=WC at *;generalize D.tup ((ts++mv n us).map prD)=LR at *;generalize D.tup ((mv n us).map prD)=LQ at *;generalize D.lst ((mv n us).map prD)=L2 at *;generalize D.tup (ts.map prD)=L4 at *;simp[KG.Z,i3,o2,hc,e2]
theorem pV(hz:8<n+m):qa p (k+1) "_law_both" [wb n ts,wb m us]=.ok (great (n+m)):=by
 have i1:ixD (wb n ts) (.int 0)=.ok (.int n):=rfl;have i2:ixD (wb m us) (.int 0)=.ok (.int m):=rfl;have o1:op2 .add (.int n) (.int m)=.ok (.int (n+m)):=rfl;have c1:ql .gt (.int (n+m)) (.int 8)=.ok true:=by rw[gt_int,decide_eq_true hz]
 rw[qc lM];refine qp (τ:=[some (wb n ts),some (wb m us),none]) rfl rfl ?_;generalize wb n ts=WB at *;generalize wb m us=WC at *;simp[KG.Z,iY,i1,i2,o1,c1,great]
end
abbrev TB:Ss:=.cons (.ret (.ite (.cmp .eq (.var 0) (.con (.int 0))) (.call "beside" (.cons (.var 1) (.cons (.var 2) .nil))) (.call "crowned" (.cons (.var 1) .nil)))) .nil
theorem jT{x a b d:D}(h:qf ⟨qa p (k+5),p.glb,p.sub,p.cat,p.fld⟩ TB [some x,some a,some b,none]=.rt d):qa p (k+6) "_law_told" [x,a,b]=.ok d:=by
 rw[qc ig];refine qp (τ:=[some x,some a,some b,none]) rfl rfl ?_;show qf _ (.cons (.try TB "PlaceError" (some 3) _) .nil) _=_;rw[qf,zx,h]
theorem kx{x a b:D}{i:Int}(h:qf ⟨qa p (k+5),p.glb,p.sub,p.cat,p.fld⟩ TB [some x,some a,some b,none]=.ex ⟨"TooGreat",[("many",i),("most",8)]⟩):qa p (k+6) "_law_told" [x,a,b]=.ok (great i):=by
 have hk:qa p (k+5) "_law_kinds" [.exn ⟨"TooGreat",[("many",i),("most",8)]⟩]=.ok (.int 13):=by rw[qc my];kernel_rfl
 have hc:p.cat "TooGreat" "PlaceError" = true:=by kernel_rfl
 have f1:fj ⟨qa p (k+5),p.glb,p.sub,p.cat,p.fld⟩ "many" (.exn ⟨"TooGreat",[("many",i),("most",8)]⟩)=.ok (.int i):=by kernel_rfl
 have f2:fj ⟨qa p (k+5),p.glb,p.sub,p.cat,p.fld⟩ "most" (.exn ⟨"TooGreat",[("many",i),("most",8)]⟩)=.ok (.int 8):=by kernel_rfl
 have e1:evE ⟨qa p (k+5),p.glb,p.sub,p.cat,p.fld⟩ (.fld (.var 3) "many") [none,none,none,some (.exn ⟨"TooGreat",[("many",i),("most",8)]⟩)]=.ok (.int i):=f1;have e2:evE ⟨qa p (k+5),p.glb,p.sub,p.cat,p.fld⟩ (.fld (.var 3) "most") [none,none,none,some (.exn ⟨"TooGreat",[("many",i),("most",8)]⟩)]=.ok (.int 8):=f2;have hq:ql .eq (.int 13) (.int 13)=.ok true:=rfl;rw[qc ig];refine qp (τ:=[some x,some a,some b,none]) rfl rfl ?_;show qf _ (.cons (.try TB "PlaceError" (some 3) _) .nil) _=_;rw[qf,zx,h];simp only[hc,if_true,cB];simp[KG.Z,hk,hq,e1,e2,O.rtOnly,great]
theorem jh{x a b:D}(h:qf ⟨qa p (k+5),p.glb,p.sub,p.cat,p.fld⟩ TB [some x,some a,some b,none]=.ex "NoWeb"):qa p (k+6) "_law_told" [x,a,b]=.ok (.int 0):=by
 have hk:qa p (k+5) "_law_kinds" [.exn "NoWeb"]=.ok (.int 0):=by rw[qc my];kernel_rfl
 have hc:p.cat "NoWeb" "PlaceError" = true:=by kernel_rfl
 have hq:ql .eq (.int 0) (.int 13)=.ok false:=rfl;rw[qc ig];refine qp (τ:=[some x,some a,some b,none]) rfl rfl ?_;show qf _ (.cons (.try TB "PlaceError" (some 3) _) .nil) _=_;rw[qf,zx,h];simp only[hc,if_true,cB];simp[KG.Z,hk,hq,O.rtOnly]
theorem tb0{a b:D}{r:R D}(h:qa p (k+5) "beside" [a,b]=r):qf ⟨qa p (k+5),p.glb,p.sub,p.cat,p.fld⟩ TB [some (.int 0),some a,some b,none]=r.out .rt:=by
 have hq:ql .eq (.int 0) (.int 0)=.ok true:=rfl;cases r<;>simp[KG.Z,qu,hq,h]
theorem tb1{a b:D}{r:R D}(h:qa p (k+5) "crowned" [a]=r):qf ⟨qa p (k+5),p.glb,p.sub,p.cat,p.fld⟩ TB [some (.int 1),some a,some b,none]=r.out .rt:=by
 have hq:ql .eq (.int 1) (.int 0)=.ok false:=rfl;cases r<;>simp[KG.Z,qu,hq,h]
theorem ip{d:D}(h:∀k,qa p (k+3) "is_web" [d]=.ok (.bl false)):qa p (k+4) "need_web" [d]=.ex "NoWeb":=by
 have h:=h k;rw[qc B.need_web];simp only[zJ];simp[KG.Z,KG.eI,h]
theorem vO{d b:D}(h:∀k,qa p (k+3) "is_web" [d]=.ok (.bl false)):qa p (k+5) "beside" [d,b]=.ex "NoWeb":=by
 have z:=ip (k:=k) h;rw[qc gR];refine fS (τ:=[some d,some b,none,none]) rfl rfl ?_;simp[KG.Z,fQ,z]
theorem yk{n:Int}{ts:List (Int×Int)}(g:GW n ts){d:D}(h:∀k,qa p (k+3) "is_web" [d]=.ok (.bl false)):qa p (k+5) "beside" [wb n ts,d]=.ex "NoWeb":=by
 have z0:=need_web B (k:=k) g;have z:=ip (k:=k) h;rw[qc gR];refine fS (τ:=[some (wb n ts),some d,none,none]) rfl rfl ?_;generalize wb n ts=WB at *;simp[KG.Z,fQ,z0,z]
theorem vW{d:D}(h:∀k,qa p (k+3) "is_web" [d]=.ok (.bl false)):qa p (k+5) "crowned" [d]=.ex "NoWeb":=by
 have z:=ip (k:=k) h;rw[qc iJ];refine fS (τ:=[some d,none,none]) rfl rfl ?_;simp[KG.Z,je,z]
theorem kK(i:Int):qa p (k+2) "_law_same" [great i,great i]=.ok (.bl true):=
 xS (k:=k+1) _ λd hd=>by
  simp only[aG,br,or_false]at hd;rcases hd with rfl|rfl|rfl
  ·kernel_rfl
  ·exact same_int eD i
  ·exact same_int eD 8
theorem kz(m:Int)(ts:List (Int×Int)):qa p (k+4) "_law_same" [wb m ts,wb m ts]=.ok (.bl true):=by
 refine jd _ λd hd=>?_
 simp only[aG,br,or_false]at hd;rcases hd with rfl|rfl
 ·exact same_int eD m
 ·refine jd _ λd hd=>?_
  obtain⟨t,_,rfl⟩:=bj.mp hd;refine jd _ λd hd=>?_
  simp only[aG,br,or_false]at hd;rcases hd with rfl|rfl<;>exact same_int eD _
theorem yE{n m:Int}{ts us:List (Int×Int)}(h:GW n ts)(g:GW m us):∃d,qa p (k+6) "_law_told" [.int 0,wb n ts,wb m us]=.ok d/\qa p (k+6) "_law_both" [wb n ts,wb m us]=.ok d/\qa p (k+6) "_law_same" [d,d]=.ok (.bl true):=by
 by_cases hz:n+m<=8
 ·exact⟨_,jT (tb0 (xx h g hz)),AK (k:=k+5) h g hz,kz (k:=k+2) _ _⟩
 ·exact⟨_,kx (tb0 (x6 h g (by lia))),pV (k:=k+5) h g (by lia),kK (k:=k+4) _⟩
theorem uG{n:Int}{ts:List (Int×Int)}(h:GW n ts):∃d,qa p (k+6) "_law_told" [.int 1,wb n ts,.non]=.ok d/\qa p (k+6) "_law_crown" [wb n ts]=.ok d/\qa p (k+6) "_law_same" [d,d]=.ok (.bl true):=by
 by_cases hz:n<=4
 ·exact⟨_,jT (tb1 (wt h hz)),rK (k:=k+5) h hz,kz (k:=k+2) _ _⟩
 ·exact⟨_,kx (tb1 (sR h (by lia))),wV (k:=k+5) h (by lia),kK (k:=k+4) _⟩
theorem odd{n:Int}{ts:List (Int×Int)}(h:GW n ts)(c:Int):∃d,qa p (k+6) "_law_no_web" [wb n ts,.int c]=.ok d/\qa p (k+6) "_law_told" [.int 0,d,d]=.ok (.int 0)/\qa p (k+6) "_law_told" [.int 0,wb n ts,d]=.ok (.int 0)/\qa p (k+6) "_law_told" [.int 1,d,.non]=.ok (.int 0):=by
 obtain⟨d,e,hd⟩:=yV B hNW (k:=k+5) h c;exact⟨d,e,jh (tb0 (vO hd)),jh (tb0 (yk h hd)),jh (tb1 (vW hd))⟩
end
noncomputable def depth:Nat:=7
abbrev LS(ns:List Int)(v1 v2 v3 v4 v5 v6 v7:Option D):Env:=[some (.lst (ns.map D.int)),v1,v2,v3,v4,v5,v6,v7]
abbrev Wb:Type:=Int×List (Int×Int)
noncomputable def pw(x:Wb×Wb):D:=.tup [wb x.1.1 x.1.2,wb x.2.1 x.2.2]
theorem fxP{x:D}{t:List D}{l:List (Wb×Wb)}(e:x::t=l.map pw):∃y ms,l=y::ms/\x=pw y/\t=ms.map pw:=by
 cases l with
 |nil=>cases e
 |cons y ms=>rw[bt]at e;injection e with e1 e2;exact⟨y,ms,rfl,e1,e2⟩
theorem xJ{w:W}(ns:List Int)(hn:ns.length<=63)(hst:∀c j:Int,w.call "_law_stir" [.int c,.int j]=.ok (.int (st c j)))
  (hw:∀m c:Int,1<=m->m<=8->∃ts,GW m ts/\w.call "_law_web_by" [.int m,.int c]=.ok (wb m ts))
  (h0:∀(n m:Int) (ts us:List (Int×Int)),GW n ts->GW m us->∃d,w.call "_law_told" [.int 0,wb n ts,wb m us]=.ok d/\w.call "_law_both" [wb n ts,wb m us]=.ok d/\w.call "_law_same" [d,d]=.ok (.bl true))
  (h1:∀(n:Int) (ts:List (Int×Int)),GW n ts->∃d,w.call "_law_told" [.int 1,wb n ts,.non]=.ok d/\w.call "_law_crown" [wb n ts]=.ok d/\w.call "_law_same" [d,d]=.ok (.bl true))
  (h2:∀(n:Int) (ts:List (Int×Int)) (c:Int),GW n ts->∃d,w.call "_law_no_web" [wb n ts,.int c]=.ok d/\w.call "_law_told" [.int 0,d,d]=.ok (.int 0)/\w.call "_law_told" [.int 0,wb n ts,d]=.ok (.int 0)/\w.call "_law_told" [.int 1,d,.non]=.ok (.int 0)) :
  Ends (λ_=>False) (λd=>d=.bl true) (qf w fK.body [some (.lst (ns.map D.int)),none,none,none,none,none,none,none]):=by
 obtain⟨cs,hcs,hcl⟩:=uY ns none (some 6);refine l9 (ds:=(cs++[0,3,130]).map D.int) (λr σ=>∃(ms:List Int) (v1 v2 v3 v4 v5 v6 v7:Option D),r=ms.map D.int/\σ=LS ns v1 v2 v3 v4 v5 v6 v7) ?_ ⟨_,none,none,none,none,none,none,none,rfl,rfl⟩ ?_ ?_
 ·have e:op2 .add (.lst (cs.map D.int)) (.lst [.int 0,.int 3,.int 130])=.ok (.lst ((cs++[0,3,130]).map D.int)):=by
   rw[op2,if_pos (by simp[SZ];lia)];simp
  simp[KG.Z,slD,hcs,e,seq?]
 ·rintro x t σ ⟨ms,v1,v2,v3,v4,v5,v6,v7,e,rfl⟩;obtain⟨c,ms,rfl,rfl,rfl⟩:=fx e;refine⟨LS ns (some (.int c)) v2 v3 v4 v5 v6 v7,rfl,?_⟩;obtain⟨ta,ga,wa⟩:=hw (1+c/64%8) (c/512) (by lia) (by lia);obtain⟨tb,gb,wb'⟩:=hw (1+st c 1%8) (st c 2) (by lia) (by lia);obtain⟨tc,gc,wc⟩:=hw (1+st c 3%4) (st c 4) (by lia) (by lia);have s1:=hst c 1;have s2:=hst c 2;have s3:=hst c 3;have s4:=hst c 4;have s5:=hst c 5;refine er (σ:=LS ns (some (.int c)) (some (wb (1+c/64%8) ta)) v3 v4 v5 v6 v7) (by simp[KG.Z,op2,wa]) ?_;generalize 1+c/64%8=A at *;generalize st c 2=c2 at *;generalize st c 4=c4 at *;refine er (σ:=LS ns (some (.int c)) (some (wb A ta)) (some (wb (1+st c 1%8) tb)) v4 v5 v6 v7) (by
   dsimp only[LS];generalize wb A ta=WA at *;simp[KG.Z,op2,s1,s2,wb']) ?_
  generalize 1+st c 1%8=Bm at *;refine er (σ:=LS ns (some (.int c)) (some (wb A ta)) (some (wb Bm tb)) (some (wb (1+st c 3%4) tc)) v5 v6 v7) (by
   dsimp only[LS];generalize wb A ta=WA at *;generalize wb Bm tb=WB at *;simp[KG.Z,op2,s3,s4,wc]) ?_
  generalize 1+st c 3%4=Cm at *;have g1:GW 1 []:=by decide +kernel
  have one:wb 1 []=.tup [.int 1,.tup []]:=rfl;have eds:([((A,ta),(Bm,tb)),((Bm,tb),(A,ta)),((Cm,tc),(Cm,tc)),((A,ta),(1,[])),((1,[]),(A,ta))]:List (Wb×Wb)).map pw=[.tup [wb A ta,wb Bm tb],.tup [wb Bm tb,wb A ta],.tup [wb Cm tc,wb Cm tc],.tup [wb A ta,.tup [.int 1,.tup []]],.tup [.tup [.int 1,.tup []],wb A ta]]:=rfl;refine l9 (ds:=([((A,ta),(Bm,tb)),((Bm,tb),(A,ta)),((Cm,tc),(Cm,tc)),((A,ta),(1,[])),((1,[]),(A,ta))]:List (Wb×Wb)).map pw) (λr σ=>∃(ms:List (Wb×Wb)) (u5 u6:Option D),r=ms.map pw/\(∀x∈ms,GW x.1.1 x.1.2/\GW x.2.1 x.2.2)/\σ=LS ns (some (.int c)) (some (wb A ta)) (some (wb Bm tb)) (some (wb Cm tc)) u5 u6 v7) ?_ ⟨_,v5,v6,rfl,λx hx=>?_,rfl⟩ ?_ ?_
  ·rw[eds];dsimp only[LS];generalize wb A ta=WA at *;generalize wb Bm tb=WB at *;generalize wb Cm tc=WC at *;simp[KG.Z,seq?]
  ·simp only[aG,br,or_false]at hx;rcases hx with rfl|rfl|rfl|rfl|rfl
   ·exact⟨ga,gb⟩
   ·exact⟨gb,ga⟩
   ·exact⟨gc,gc⟩
   ·exact⟨ga,g1⟩
   ·exact⟨g1,ga⟩
  ·rintro x t σ ⟨ms,u5,u6,e,hg,rfl⟩;obtain⟨⟨⟨n,ts⟩,m,us⟩,ms,rfl,rfl,rfl⟩:=fxP e;obtain⟨y1,y2⟩:=hg _ aL;obtain⟨d0,a1,a2,a3⟩:=h0 n m ts us y1 y2;obtain⟨d1,b1',b2,b3⟩:=h1 n ts y1;refine⟨LS ns (some (.int c)) (some (wb A ta)) (some (wb Bm tb)) (some (wb Cm tc)) (some (wb n ts)) (some (wb m us)) v7,rfl,?_⟩;refine er (σ:=LS ns (some (.int c)) (some (wb A ta)) (some (wb Bm tb)) (some (wb Cm tc)) (some (wb n ts)) (some (wb m us)) v7) (by
    dsimp only[LS];generalize wb A ta=WA at *;generalize wb Bm tb=WB at *;generalize wb Cm tc=WC at *;generalize wb n ts=WN at *;generalize wb m us=WM at *;simp[KG.Z,a1,a2,a3]) ?_
   refine er (σ:=LS ns (some (.int c)) (some (wb A ta)) (some (wb Bm tb)) (some (wb Cm tc)) (some (wb n ts)) (some (wb m us)) v7) (by
    dsimp only[LS];generalize wb A ta=WA at *;generalize wb Bm tb=WB at *;generalize wb Cm tc=WC at *;generalize wb n ts=WN at *;generalize wb m us=WM at *;simp[KG.Z,b1',b2,b3]) (mY ⟨ms,_,_,rfl,λx q=>hg x (aI _ q),rfl⟩)
  ·rintro σ ⟨ms',u5,u6,e',hg,rfl⟩;obtain⟨d,z1,z2,z3,z4⟩:=h2 A ta (st c 5) ga;have ne0:ql .ne (.int 0) (.int 0)=.ok false:=rfl;generalize st c 5=c5 at *;refine er (σ:=LS ns (some (.int c)) (some (wb A ta)) (some (wb Bm tb)) (some (wb Cm tc)) u5 u6 (some d)) (by
    dsimp only[LS];generalize wb A ta=WA at *;generalize wb Bm tb=WB at *;generalize wb Cm tc=WC at *;simp[KG.Z,s5,z1]) ?_
   refine er (σ:=LS ns (some (.int c)) (some (wb A ta)) (some (wb Bm tb)) (some (wb Cm tc)) u5 u6 (some d)) (by
    dsimp only[LS];generalize wb A ta=WA at *;generalize wb Bm tb=WB at *;generalize wb Cm tc=WC at *;simp[KG.Z,z2,z3,z4,ne0]) (mY ⟨ms,_,_,_,_,_,_,_,rfl,rfl⟩)
 ·rintro σ ⟨ms,v1,v2,v3,v4,v5,v6,v7,e,rfl⟩;exact yF (d:=.bl true) (by simp[KG.Z]) rfl
theorem yl{F:Str->List D->R D}(ns:List Int)(hn:ns.length<=63)(hst:∀c j:Int,F "_law_stir" [.int c,.int j]=.ok (.int (st c j)))
  (hw:∀m c:Int,1<=m->m<=8->∃ts,GW m ts/\F "_law_web_by" [.int m,.int c]=.ok (wb m ts))
  (h0:∀(n m:Int) (ts us:List (Int×Int)),GW n ts->GW m us->∃d,F "_law_told" [.int 0,wb n ts,wb m us]=.ok d/\F "_law_both" [wb n ts,wb m us]=.ok d/\F "_law_same" [d,d]=.ok (.bl true))
  (h1:∀(n:Int) (ts:List (Int×Int)),GW n ts->∃d,F "_law_told" [.int 1,wb n ts,.non]=.ok d/\F "_law_crown" [wb n ts]=.ok d/\F "_law_same" [d,d]=.ok (.bl true))
  (h2:∀(n:Int) (ts:List (Int×Int)) (c:Int),GW n ts->∃d,F "_law_no_web" [wb n ts,.int c]=.ok d/\F "_law_told" [.int 0,d,d]=.ok (.int 0)/\F "_law_told" [.int 0,wb n ts,d]=.ok (.int 0)/\F "_law_told" [.int 1,d,.non]=.ok (.int 0)) :
  zJ ⟨F,p.glb,p.sub,p.cat,p.fld⟩ fK [.lst (ns.map D.int)]=.ok (.bl true):=by
 obtain⟨d,e,rfl⟩:=pC (w:=⟨F,p.glb,p.sub,p.cat,p.fld⟩) (f:=fK) (ds:=[.lst (ns.map D.int)]) rfl rfl (xJ (w:=⟨F,p.glb,p.sub,p.cat,p.fld⟩) ns hn hst hw h0 h1 h2);exact e
theorem rB:∀ns:List Int,ns.length<=63->qa p depth "law" [.lst (ns.map D.int)]=.ok (.bl true):=by
 intro ns hn;rw[show depth=6+1 from rfl,qc xF];exact yl ns hn (λc j=>iC nj (k:=5) c j) (λm c h1 h2=>wH nj uS hBy (k:=4) m c h1 h2) (λn m ts us h g=>yE (k:=0) h g) (λn ts h=>uG (k:=0) h) λn ts c h=>odd (k:=0) h c
end K05
namespace K05
open PySem PySem.Spec PyProof.Rows L2 EV
theorem kq:∀e∈tab,cFn G (eA us oth) e.own e.fr e.st=some e.fn:=by
 intro e he;simp only[tab,aG,br,or_false]at he;rcases he with rfl|rfl|rfl|rfl|rfl|rfl|rfl|rfl|rfl|rfl|rfl|rfl|rfl|rfl|rfl|rfl|rfl|rfl|rfl|rfl|rfl<;>kernel_rfl
theorem pP:∀e∈us,e∈tab:=by
 intro e he;simp only[us,aG,br,or_false]at he;rcases he with rfl
 ·simp[tab]
theorem vz:∀e∈us,eS (dt oth) e.own e.fr e.st=some e.fn:=by
 intro e he;simp only[us,aG,br,or_false]at he;rcases he with rfl<;>kernel_rfl
theorem nd:(tab.map (·.x)).Nodup:=by decide +kernel
section
variable{K:aq}{h:Heap}{mg:Str->Option ae}{f0:Addr}(d0:WB.Dd K "is_whole" (top 17) f0){f1:Addr}(d1:WB.Dd K "is_between" (top 18) f1){f2:Addr}(d2:WB.Dd K "is_pair" (top 19) f2){f3:Addr}(d3:WB.Dd K "rises" (top 20) f3){f4:Addr}(d4:WB.Dd K "is_web" (top 23) f4){f5:Addr}(d5:WB.Dd K "is_tie" (top 24) f5){f6:Addr}(d6:WB.Dd K "need_web" (top 25) f6){f7:Addr}(d7:WB.Dd K "beside" (top 27) f7){f8:Addr}(d8:WB.Dd K "crowned" (top 28) f8){f9:Addr}(d9:WB.Dd K "web_of" (top 29) f9){f10:Addr}(d10:WB.Dd K "need_room" (top 30) f10){f11:Addr}(d11:WB.Dd K "_law_kinds" (top 32) f11){f12:Addr}(d12:WB.Dd K "_law_pairs" (top 33) f12){f13:Addr}(d13:WB.Dd K "_law_stir" (top 34) f13){f14:Addr}(d14:WB.Dd K "_law_web_by" (top 35) f14){f15:Addr}(d15:WB.Dd K "_law_same" (top 36) f15){f16:Addr}(d16:WB.Dd K "_law_no_web" (top 37) f16){f17:Addr}(d17:WB.Dd K "_law_told" (top 38) f17){f18:Addr}(d18:WB.Dd K "_law_both" (top 39) f18){f19:Addr}(d19:WB.Dd K "_law_crown" (top 40) f19){f20:Addr}(d20:WB.Dd K "law" (top 41) f20)
include d0 d1 d2 d3 d4 d5 d6 d7 d8 d9 d10 d11 d12 d13 d14 d15 d16 d17 d18 d19 d20
theorem xy:∀e∈tab,fu K G e:=by
 intro e he;simp only[tab,aG,br,or_false]at he;rcases he with rfl|rfl|rfl|rfl|rfl|rfl|rfl|rfl|rfl|rfl|rfl|rfl|rfl|rfl|rfl|rfl|rfl|rfl|rfl|rfl|rfl<;>refine⟨⟨_,by assumption⟩,λ_ _ _ _ _ _ us hl=>?_⟩<;>first|(obtain⟨_,rfl⟩:=WB.jU hl;rfl)|(obtain⟨_,_,rfl⟩:=WB.ki hl;rfl)|(obtain⟨_,_,_,rfl⟩:=WB.nN hl;rfl)
omit d0 d1 d2 d3 d4 d5 d6 d7 d8 d9 d10 d11 d12 d13 d14 d15 d16 d17 d18 d19 d20
theorem jj{x:Str}{k:GK}(h:oth.lookup x=some k):∃y∈oth,x=y.1/\k=y.2:=by
 generalize oth=l at h ⊢
 induction l with
 |nil=>cases h
 |cons a r ih=>
  rw[aX]at h;split at h
  ·rename_i q;cases h;exact⟨a,aL,eq_of_beq q,rfl⟩
  ·obtain⟨y,h1,h2⟩:=ih h;exact⟨y,aI _ h1,h2⟩
theorem vA{K:aq}{C0:Addr}(k0:ao K ak "PlaceError" = some (some (.ref C0))){C1:Addr}(k1:ao K ak "NoWeb" = some (some (.ref C1)))(x1:PySem.W.excIn K C1 cz "ValueError.__new__" = true){C2:Addr}(k2:ao K ak "NoPlaces" = some (some (.ref C2))){C3:Addr}(k3:ao K ak "NoPlace" = some (some (.ref C3))){C4:Addr}(k4:ao K ak "NoNumber" = some (some (.ref C4))){C5:Addr}(k5:ao K ak "NotAll" = some (some (.ref C5))){C6:Addr}(k6:ao K ak "NotUntied" = some (some (.ref C6))){C7:Addr}(k7:ao K ak "NoShares" = some (some (.ref C7))){C8:Addr}(k8:ao K ak "NotTree" = some (some (.ref C8))){C9:Addr}(k9:ao K ak "NotTold" = some (some (.ref C9))){C10:Addr}(k10:ao K ak "NoCrowds" = some (some (.ref C10))){C11:Addr}(k11:ao K ak "NoText" = some (some (.ref C11))){C12:Addr}(k12:ao K ak "NoLine" = some (some (.ref C12))){C13:Addr}(k13:ao K ak "NoDeed" = some (some (.ref C13))){C14:Addr}(k14:ao K ak "TooGreat" = some (some (.ref C14))){tk0:Tok}(u0:ao K ak "MOST" = some (some (.int 8 tk0)))(z0:ao K ak "len" = some none)(z1:ao K ak "tuple" = some none)(z2:ao K ak "list" = some none)(z3:ao K ak "int" = some none)(z4:ao K ak "bool" = some none)(z5:ao K ak "str" = some none)(z6:ao K ak "sorted" = some none)(z7:ao K ak "all" = some none)(z8:ao K ak "range" = some none)(z9:ao K ak "enumerate" = some none)(z10:ao K ak "zip" = some none)(z11:ao K ak "isinstance" = some none)(z12:ao K ak "ValueError" = some none):∀x k,oth.lookup x=some k->lN K vals x k:=by
 intro x k h;obtain⟨y,h1,rfl,rfl⟩:=jj h;simp only[oth,aG,br,or_false]at h1;rcases h1 with rfl|rfl|rfl|rfl|rfl|rfl|rfl|rfl|rfl|rfl|rfl|rfl|rfl|rfl|rfl|rfl|rfl|rfl|rfl|rfl|rfl|rfl|rfl|rfl|rfl|rfl|rfl|rfl|rfl
 ·exact⟨_,k0⟩
 ·exact⟨_,k1,x1⟩
 ·exact⟨_,k2⟩
 ·exact⟨_,k3⟩
 ·exact⟨_,k4⟩
 ·exact⟨_,k5⟩
 ·exact⟨_,k6⟩
 ·exact⟨_,k7⟩
 ·exact⟨_,k8⟩
 ·exact⟨_,k9⟩
 ·exact⟨_,k10⟩
 ·exact⟨_,k11⟩
 ·exact⟨_,k12⟩
 ·exact⟨_,k13⟩
 ·exact⟨_,k14⟩
 ·exact⟨_,.int 8,.int 8,u0,⟨_,rfl⟩,rfl,λg H _=>.int _⟩
 ·exact⟨z0,rfl,_,rfl⟩
 ·exact⟨z1,by decide +kernel,by simp,by simp[b1N,b1V]⟩
 ·exact⟨z2,by decide +kernel,by simp,by simp[b1N,b1V]⟩
 ·exact⟨z3,by decide +kernel,by simp,by simp[b1N,b1V]⟩
 ·exact⟨z4,by decide +kernel,by simp,by simp[b1N,b1V]⟩
 ·exact⟨z5,by decide +kernel,by simp,by simp⟩
 ·exact⟨z6,rfl,_,rfl⟩
 ·exact⟨z7,rfl,_,rfl⟩
 ·exact⟨z8,rfl⟩
 ·exact⟨z9,rfl⟩
 ·exact⟨z10,rfl⟩
 ·exact⟨z11,rfl⟩
 ·exact⟨z12,by decide +kernel,by simp,by simp⟩
theorem xj:∀x fr,oth.lookup x≠some (.fn fr):=by
 intro x fr h;obtain⟨y,h1,rfl,h2⟩:=jj h;simp only[oth,aG,br,or_false]at h1;rcases h1 with rfl|rfl|rfl|rfl|rfl|rfl|rfl|rfl|rfl|rfl|rfl|rfl|rfl|rfl|rfl|rfl|rfl|rfl|rfl|rfl|rfl|rfl|rfl|rfl|rfl|rfl|rfl|rfl|rfl<;>cases h2
theorem pX:∀x,(oth.lookup x=some .exc\/oth.lookup x=some .exk\/oth.lookup x=some .exf)->([ah "PlaceError",ah "NoWeb",ah "NoPlaces",ah "NoPlace",ah "NoNumber",ah "NotAll",ah "NotUntied",ah "NoShares",ah "NotTree",ah "NotTold",ah "NoCrowds",ah "NoText",ah "NoLine",ah "NoDeed",ah "TooGreat"]:List Str).contains x=true:=by
 intro x h;rcases h with h|h|h<;>obtain⟨y,h1,rfl,h2⟩:=jj h<;>simp only[oth,aG,br,or_false]at h1<;>rcases h1 with rfl|rfl|rfl|rfl|rfl|rfl|rfl|rfl|rfl|rfl|rfl|rfl|rfl|rfl|rfl|rfl|rfl|rfl|rfl|rfl|rfl|rfl|rfl|rfl|rfl|rfl|rfl|rfl|rfl<;>first|(cases h2;done)|decide +kernel
theorem xX{K:aq}{C0:Addr}(k0:ao K ak "PlaceError" = some (some (.ref C0))){C1:Addr}(k1:ao K ak "NoWeb" = some (some (.ref C1))){C2:Addr}(k2:ao K ak "NoPlaces" = some (some (.ref C2))){C3:Addr}(k3:ao K ak "NoPlace" = some (some (.ref C3))){C4:Addr}(k4:ao K ak "NoNumber" = some (some (.ref C4))){C5:Addr}(k5:ao K ak "NotAll" = some (some (.ref C5))){C6:Addr}(k6:ao K ak "NotUntied" = some (some (.ref C6))){C7:Addr}(k7:ao K ak "NoShares" = some (some (.ref C7))){C8:Addr}(k8:ao K ak "NotTree" = some (some (.ref C8))){C9:Addr}(k9:ao K ak "NotTold" = some (some (.ref C9))){C10:Addr}(k10:ao K ak "NoCrowds" = some (some (.ref C10))){C11:Addr}(k11:ao K ak "NoText" = some (some (.ref C11))){C12:Addr}(k12:ao K ak "NoLine" = some (some (.ref C12))){C13:Addr}(k13:ao K ak "NoDeed" = some (some (.ref C13))){C14:Addr}(k14:ao K ak "TooGreat" = some (some (.ref C14)))(w0:bG K (.ref C1) (.ref C0)=some true)(w1:bG K (.ref C14) (.ref C0)=some true):∀y∈cb,∃C D,ao K ak y.1=some (some (.ref C))/\ao K ak y.2=some (some (.ref D))/\bG K (.ref C) (.ref D)=some true:=by
 intro y h1;simp only[cb,aG,br,or_false]at h1;rcases h1 with rfl|rfl
 ·exact⟨_,_,k1,k0,w0⟩
 ·exact⟨_,_,k14,k0,w1⟩
theorem uD{K:aq}{C0:Addr}(k0:ao K ak "PlaceError" = some (some (.ref C0))){C1:Addr}(k1:ao K ak "NoWeb" = some (some (.ref C1))){C2:Addr}(k2:ao K ak "NoPlaces" = some (some (.ref C2))){C3:Addr}(k3:ao K ak "NoPlace" = some (some (.ref C3))){C4:Addr}(k4:ao K ak "NoNumber" = some (some (.ref C4))){C5:Addr}(k5:ao K ak "NotAll" = some (some (.ref C5))){C6:Addr}(k6:ao K ak "NotUntied" = some (some (.ref C6))){C7:Addr}(k7:ao K ak "NoShares" = some (some (.ref C7))){C8:Addr}(k8:ao K ak "NotTree" = some (some (.ref C8))){C9:Addr}(k9:ao K ak "NotTold" = some (some (.ref C9))){C10:Addr}(k10:ao K ak "NoCrowds" = some (some (.ref C10))){C11:Addr}(k11:ao K ak "NoText" = some (some (.ref C11))){C12:Addr}(k12:ao K ak "NoLine" = some (some (.ref C12))){C13:Addr}(k13:ao K ak "NoDeed" = some (some (.ref C13))){C14:Addr}(k14:ao K ak "TooGreat" = some (some (.ref C14)))(y0:zD K C1)(v0:ay K (.ref C1) (.type "ValueError")=some true)(y1:zD K C14)(v1:ay K (.ref C14) (.type "ValueError")=some true)(t0:WB.Dk K "NoWeb" C1)(t1:WB.Dk K "NoPlaces" C2)(t2:WB.Dk K "NoPlace" C3)(t3:WB.Dk K "NoNumber" C4)(t4:WB.Dk K "NotUntied" C6)(t5:WB.Dk K "NoShares" C7)(t6:WB.Dk K "NotTree" C8)(t7:WB.Dk K "NotTold" C9)(t8:WB.Dk K "NoCrowds" C10)(t9:WB.Dk K "NoText" C11)(t10:WB.Dk K "NoLine" C12)(t11:WB.Dk K "NoDeed" C13)(t12:WB.Dk K "NotAll" C5)(t13:WB.Dk K "TooGreat" C14)(q0_1:ay K (.ref C1) (.ref C2)=some false)(n0_1:C1≠C2)(q0_2:ay K (.ref C1) (.ref C3)=some false)(n0_2:C1≠C3)(q0_3:ay K (.ref C1) (.ref C4)=some false)(n0_3:C1≠C4)(q0_4:ay K (.ref C1) (.ref C6)=some false)(n0_4:C1≠C6)(q0_5:ay K (.ref C1) (.ref C7)=some false)(n0_5:C1≠C7)(q0_6:ay K (.ref C1) (.ref C8)=some false)(n0_6:C1≠C8)(q0_7:ay K (.ref C1) (.ref C9)=some false)(n0_7:C1≠C9)(q0_8:ay K (.ref C1) (.ref C10)=some false)(n0_8:C1≠C10)(q0_9:ay K (.ref C1) (.ref C11)=some false)(n0_9:C1≠C11)(q0_10:ay K (.ref C1) (.ref C12)=some false)(n0_10:C1≠C12)(q0_11:ay K (.ref C1) (.ref C13)=some false)(n0_11:C1≠C13)(q0_12:ay K (.ref C1) (.ref C5)=some false)(n0_12:C1≠C5)(q0_13:ay K (.ref C1) (.ref C14)=some false)(n0_13:C1≠C14)(q1_0:ay K (.ref C14) (.ref C1)=some false)(n1_0:C14≠C1)(q1_1:ay K (.ref C14) (.ref C2)=some false)(n1_1:C14≠C2)(q1_2:ay K (.ref C14) (.ref C3)=some false)(n1_2:C14≠C3)(q1_3:ay K (.ref C14) (.ref C4)=some false)(n1_3:C14≠C4)(q1_4:ay K (.ref C14) (.ref C6)=some false)(n1_4:C14≠C6)(q1_5:ay K (.ref C14) (.ref C7)=some false)(n1_5:C14≠C7)(q1_6:ay K (.ref C14) (.ref C8)=some false)(n1_6:C14≠C8)(q1_7:ay K (.ref C14) (.ref C9)=some false)(n1_7:C14≠C9)(q1_8:ay K (.ref C14) (.ref C10)=some false)(n1_8:C14≠C10)(q1_9:ay K (.ref C14) (.ref C11)=some false)(n1_9:C14≠C11)(q1_10:ay K (.ref C14) (.ref C12)=some false)(n1_10:C14≠C12)(q1_11:ay K (.ref C14) (.ref C13)=some false)(n1_11:C14≠C13)(q1_12:ay K (.ref C14) (.ref C5)=some false)(n1_12:C14≠C5):∀y∈subs,lP K [ah "PlaceError",ah "NoWeb",ah "NoPlaces",ah "NoPlace",ah "NoNumber",ah "NotAll",ah "NotUntied",ah "NoShares",ah "NotTree",ah "NotTold",ah "NoCrowds",ah "NoText",ah "NoLine",ah "NoDeed",ah "TooGreat"] y:=by
 intro y h1;simp only[subs,aG,br,or_false]at h1;rcases h1 with rfl|rfl|rfl|rfl|rfl|rfl|rfl|rfl|rfl|rfl|rfl|rfl|rfl|rfl|rfl|rfl|rfl|rfl|rfl|rfl|rfl|rfl|rfl|rfl|rfl|rfl|rfl|rfl|rfl|rfl
 ·exact⟨_,_,by decide +kernel,k1,y0,WB.kQ v0,rfl,rfl⟩
 ·exact⟨_,_,by decide +kernel,k1,y0,WB.kN,_,by decide +kernel,k1,rfl⟩
 ·exact⟨_,_,by decide +kernel,k1,y0,t1.kit q0_1 n0_1,_,by decide +kernel,k2,rfl⟩
 ·exact⟨_,_,by decide +kernel,k1,y0,t2.kit q0_2 n0_2,_,by decide +kernel,k3,rfl⟩
 ·exact⟨_,_,by decide +kernel,k1,y0,t3.kit q0_3 n0_3,_,by decide +kernel,k4,rfl⟩
 ·exact⟨_,_,by decide +kernel,k1,y0,t4.kit q0_4 n0_4,_,by decide +kernel,k6,rfl⟩
 ·exact⟨_,_,by decide +kernel,k1,y0,t5.kit q0_5 n0_5,_,by decide +kernel,k7,rfl⟩
 ·exact⟨_,_,by decide +kernel,k1,y0,t6.kit q0_6 n0_6,_,by decide +kernel,k8,rfl⟩
 ·exact⟨_,_,by decide +kernel,k1,y0,t7.kit q0_7 n0_7,_,by decide +kernel,k9,rfl⟩
 ·exact⟨_,_,by decide +kernel,k1,y0,t8.kit q0_8 n0_8,_,by decide +kernel,k10,rfl⟩
 ·exact⟨_,_,by decide +kernel,k1,y0,t9.kit q0_9 n0_9,_,by decide +kernel,k11,rfl⟩
 ·exact⟨_,_,by decide +kernel,k1,y0,t10.kit q0_10 n0_10,_,by decide +kernel,k12,rfl⟩
 ·exact⟨_,_,by decide +kernel,k1,y0,t11.kit q0_11 n0_11,_,by decide +kernel,k13,rfl⟩
 ·exact⟨_,_,by decide +kernel,k1,y0,t12.kit q0_12 n0_12,_,by decide +kernel,k5,rfl⟩
 ·exact⟨_,_,by decide +kernel,k1,y0,t13.kit q0_13 n0_13,_,by decide +kernel,k14,rfl⟩
 ·exact⟨_,_,by decide +kernel,k14,y1,WB.kQ v1,rfl,rfl⟩
 ·exact⟨_,_,by decide +kernel,k14,y1,t0.kit q1_0 n1_0,_,by decide +kernel,k1,rfl⟩
 ·exact⟨_,_,by decide +kernel,k14,y1,t1.kit q1_1 n1_1,_,by decide +kernel,k2,rfl⟩
 ·exact⟨_,_,by decide +kernel,k14,y1,t2.kit q1_2 n1_2,_,by decide +kernel,k3,rfl⟩
 ·exact⟨_,_,by decide +kernel,k14,y1,t3.kit q1_3 n1_3,_,by decide +kernel,k4,rfl⟩
 ·exact⟨_,_,by decide +kernel,k14,y1,t4.kit q1_4 n1_4,_,by decide +kernel,k6,rfl⟩
 ·exact⟨_,_,by decide +kernel,k14,y1,t5.kit q1_5 n1_5,_,by decide +kernel,k7,rfl⟩
 ·exact⟨_,_,by decide +kernel,k14,y1,t6.kit q1_6 n1_6,_,by decide +kernel,k8,rfl⟩
 ·exact⟨_,_,by decide +kernel,k14,y1,t7.kit q1_7 n1_7,_,by decide +kernel,k9,rfl⟩
 ·exact⟨_,_,by decide +kernel,k14,y1,t8.kit q1_8 n1_8,_,by decide +kernel,k10,rfl⟩
 ·exact⟨_,_,by decide +kernel,k14,y1,t9.kit q1_9 n1_9,_,by decide +kernel,k11,rfl⟩
 ·exact⟨_,_,by decide +kernel,k14,y1,t10.kit q1_10 n1_10,_,by decide +kernel,k12,rfl⟩
 ·exact⟨_,_,by decide +kernel,k14,y1,t11.kit q1_11 n1_11,_,by decide +kernel,k13,rfl⟩
 ·exact⟨_,_,by decide +kernel,k14,y1,t12.kit q1_12 n1_12,_,by decide +kernel,k5,rfl⟩
 ·exact⟨_,_,by decide +kernel,k14,y1,WB.kN,_,by decide +kernel,k14,rfl⟩
theorem sd{K:aq}{C14:Addr}(k14:ao K ak "TooGreat" = some (some (.ref C14))){I0:Addr}(e0:cj K C14 I0 [ah "many",ah "most"])(g0:dD K I0 [ah "many",ah "most"]):∀y∈zz,jY K y:=by
 intro y h1;simp only[zz,aG,br,or_false]at h1;rcases h1 with rfl
 ·exact⟨_,_,k14,e0,g0,by decide,by simp⟩
include d0 d1 d2 d3 d4 d5 d6 d7 d8 d9 d10 d11 d12 d13 d14 d15 d16 d17 d18 d19 d20
theorem all_mk(X:K.In h)(N:h.Ns ak mg){C0:Addr}(k0:ao K ak "PlaceError" = some (some (.ref C0))){C1:Addr}(k1:ao K ak "NoWeb" = some (some (.ref C1)))(x1:PySem.W.excIn K C1 cz "ValueError.__new__" = true){C2:Addr}(k2:ao K ak "NoPlaces" = some (some (.ref C2))){C3:Addr}(k3:ao K ak "NoPlace" = some (some (.ref C3))){C4:Addr}(k4:ao K ak "NoNumber" = some (some (.ref C4))){C5:Addr}(k5:ao K ak "NotAll" = some (some (.ref C5))){C6:Addr}(k6:ao K ak "NotUntied" = some (some (.ref C6))){C7:Addr}(k7:ao K ak "NoShares" = some (some (.ref C7))){C8:Addr}(k8:ao K ak "NotTree" = some (some (.ref C8))){C9:Addr}(k9:ao K ak "NotTold" = some (some (.ref C9))){C10:Addr}(k10:ao K ak "NoCrowds" = some (some (.ref C10))){C11:Addr}(k11:ao K ak "NoText" = some (some (.ref C11))){C12:Addr}(k12:ao K ak "NoLine" = some (some (.ref C12))){C13:Addr}(k13:ao K ak "NoDeed" = some (some (.ref C13))){C14:Addr}(k14:ao K ak "TooGreat" = some (some (.ref C14))){tk0:Tok}(u0:ao K ak "MOST" = some (some (.int 8 tk0)))(z0:ao K ak "len" = some none)(z1:ao K ak "tuple" = some none)(z2:ao K ak "list" = some none)(z3:ao K ak "int" = some none)(z4:ao K ak "bool" = some none)(z5:ao K ak "str" = some none)(z6:ao K ak "sorted" = some none)(z7:ao K ak "all" = some none)(z8:ao K ak "range" = some none)(z9:ao K ak "enumerate" = some none)(z10:ao K ak "zip" = some none)(z11:ao K ak "isinstance" = some none)(z12:ao K ak "ValueError" = some none)(w0:bG K (.ref C1) (.ref C0)=some true)(w1:bG K (.ref C14) (.ref C0)=some true)(y0:zD K C1)(v0:ay K (.ref C1) (.type "ValueError")=some true)(y1:zD K C14)(v1:ay K (.ref C14) (.type "ValueError")=some true)(t0:WB.Dk K "NoWeb" C1)(t1:WB.Dk K "NoPlaces" C2)(t2:WB.Dk K "NoPlace" C3)(t3:WB.Dk K "NoNumber" C4)(t4:WB.Dk K "NotUntied" C6)(t5:WB.Dk K "NoShares" C7)(t6:WB.Dk K "NotTree" C8)(t7:WB.Dk K "NotTold" C9)(t8:WB.Dk K "NoCrowds" C10)(t9:WB.Dk K "NoText" C11)(t10:WB.Dk K "NoLine" C12)(t11:WB.Dk K "NoDeed" C13)(t12:WB.Dk K "NotAll" C5)(t13:WB.Dk K "TooGreat" C14)(q0_1:ay K (.ref C1) (.ref C2)=some false)(n0_1:C1≠C2)(q0_2:ay K (.ref C1) (.ref C3)=some false)(n0_2:C1≠C3)(q0_3:ay K (.ref C1) (.ref C4)=some false)(n0_3:C1≠C4)(q0_4:ay K (.ref C1) (.ref C6)=some false)(n0_4:C1≠C6)(q0_5:ay K (.ref C1) (.ref C7)=some false)(n0_5:C1≠C7)(q0_6:ay K (.ref C1) (.ref C8)=some false)(n0_6:C1≠C8)(q0_7:ay K (.ref C1) (.ref C9)=some false)(n0_7:C1≠C9)(q0_8:ay K (.ref C1) (.ref C10)=some false)(n0_8:C1≠C10)(q0_9:ay K (.ref C1) (.ref C11)=some false)(n0_9:C1≠C11)(q0_10:ay K (.ref C1) (.ref C12)=some false)(n0_10:C1≠C12)(q0_11:ay K (.ref C1) (.ref C13)=some false)(n0_11:C1≠C13)(q0_12:ay K (.ref C1) (.ref C5)=some false)(n0_12:C1≠C5)(q0_13:ay K (.ref C1) (.ref C14)=some false)(n0_13:C1≠C14)(q1_0:ay K (.ref C14) (.ref C1)=some false)(n1_0:C14≠C1)(q1_1:ay K (.ref C14) (.ref C2)=some false)(n1_1:C14≠C2)(q1_2:ay K (.ref C14) (.ref C3)=some false)(n1_2:C14≠C3)(q1_3:ay K (.ref C14) (.ref C4)=some false)(n1_3:C14≠C4)(q1_4:ay K (.ref C14) (.ref C6)=some false)(n1_4:C14≠C6)(q1_5:ay K (.ref C14) (.ref C7)=some false)(n1_5:C14≠C7)(q1_6:ay K (.ref C14) (.ref C8)=some false)(n1_6:C14≠C8)(q1_7:ay K (.ref C14) (.ref C9)=some false)(n1_7:C14≠C9)(q1_8:ay K (.ref C14) (.ref C10)=some false)(n1_8:C14≠C10)(q1_9:ay K (.ref C14) (.ref C11)=some false)(n1_9:C14≠C11)(q1_10:ay K (.ref C14) (.ref C12)=some false)(n1_10:C14≠C12)(q1_11:ay K (.ref C14) (.ref C13)=some false)(n1_11:C14≠C13)(q1_12:ay K (.ref C14) (.ref C5)=some false)(n1_12:C14≠C5){I0:Addr}(e0:cj K C14 I0 [ah "many",ah "most"])(g0:dD K I0 [ah "many",ah "most"]):Ground p (gOf K (tab.map (·.x)) [ah "PlaceError",ah "NoWeb",ah "NoPlaces",ah "NoPlace",ah "NoNumber",ah "NotAll",ah "NotUntied",ah "NoShares",ah "NotTree",ah "NotTold",ah "NoCrowds",ah "NoText",ah "NoLine",ah "NoDeed",ah "TooGreat"]) G (eA us oth) (dt oth) mg/\fu K G fc:=
 have A:=xy d0 d1 d2 d3 d4 d5 d6 d7 d8 d9 d10 d11 d12 d13 d14 d15 d16 d17 d18 d19 d20
 ⟨vj X N rfl nd (vA k0 k1 x1 k2 k3 k4 k5 k6 k7 k8 k9 k10 k11 k12 k13 k14 u0 z0 z1 z2 z3 z4 z5 z6 z7 z8 z9 z10 z11 z12) xj pP vz kq A _ (xX k0 k1 k2 k3 k4 k5 k6 k7 k8 k9 k10 k11 k12 k13 k14 w0 w1) pX (uD k0 k1 k2 k3 k4 k5 k6 k7 k8 k9 k10 k11 k12 k13 k14 y0 v0 y1 v1 t0 t1 t2 t3 t4 t5 t6 t7 t8 t9 t10 t11 t12 t13 q0_1 n0_1 q0_2 n0_2 q0_3 n0_3 q0_4 n0_4 q0_5 n0_5 q0_6 n0_6 q0_7 n0_7 q0_8 n0_8 q0_9 n0_9 q0_10 n0_10 q0_11 n0_11 q0_12 n0_12 q0_13 n0_13 q1_0 n1_0 q1_1 n1_1 q1_2 n1_2 q1_3 n1_3 q1_4 n1_4 q1_5 n1_5 q1_6 n1_6 q1_7 n1_7 q1_8 n1_8 q1_9 n1_9 q1_10 n1_10 q1_11 n1_11 q1_12 n1_12) (sd k14 e0 g0),A fc (by simp[tab])⟩
end
theorem walk{l:PySem.W.OpenLaw}{q:av}{loose:List Str}{XP:(Str->Option ae)->Heap->Prop}{YP:au->Heap->Prop}{d:DefRec}{K:Params->aq}(hn:l.most=some 63)(hdf:d.params.defaults=[])(hd:d.name = "law")(hY:∀(w:au) (h:Heap),YP w h->(K w.params).In h)
  (hG:∀(w:au) (mg:Str->Option ae) (h:Heap),(K w.params).In h->h.Ns ak mg->Ground p (gOf (K w.params) (tab.map (·.x)) [ah "PlaceError",ah "NoWeb",ah "NoPlaces",ah "NoPlace",ah "NoNumber",ah "NotAll",ah "NotUntied",ah "NoShares",ah "NotTree",ah "NotTold",ah "NoCrowds",ah "NoText",ah "NoLine",ah "NoDeed",ah "TooGreat"]) G (eA us oth) (dt oth) mg/\fu (K w.params) G fc):PySem.W.WalkO q loose XP YP l.row.toRowW d [] (λf vs=>PySem.call f vs):=
 tN (e:=fc) (k:=depth) hn hdf hd ⟨rfl,by decide,by decide⟩ hY (by simp[tab]) nd rfl rfl (by kernel_rfl) hG (kq fc (by simp[tab])) rB
end K05
end
open PySem PySem.W PyProof.Rows
namespace PySem.W.Fast
def tw3594736500089879766:Nat:=0
theorem te3594736500089879766:tw3594736500089879766=0:=rfl
def tw16903539353586013289:Nat:=0
theorem te16903539353586013289:tw16903539353586013289=0:=rfl
def tw5638465704366342545:Nat:=0
theorem te5638465704366342545:tw5638465704366342545=0:=rfl
def tw13275257299703527345:Nat:=0
theorem te13275257299703527345:tw13275257299703527345=0:=rfl
def tw5864814667775770576:Nat:=0
theorem te5864814667775770576:tw5864814667775770576=0:=rfl
def tw6990316384130694534:Nat:=0
theorem te6990316384130694534:tw6990316384130694534=0:=rfl
def tw15536197463969184062:Nat:=0
theorem te15536197463969184062:tw15536197463969184062=0:=rfl
def tw2221687151635721133:Nat:=0
theorem te2221687151635721133:tw2221687151635721133=0:=rfl
def tw10334354712693108754:Nat:=0
theorem te10334354712693108754:tw10334354712693108754=0:=rfl
def tw16979780174739259040:Nat:=0
theorem te16979780174739259040:tw16979780174739259040=0:=rfl
def tw2057802531885460260:Nat:=0
theorem te2057802531885460260:tw2057802531885460260=0:=rfl
def tw2624664756120444048:Nat:=0
theorem te2624664756120444048:tw2624664756120444048=0:=rfl
def tw16608994054728716920:Nat:=0
theorem te16608994054728716920:tw16608994054728716920=0:=rfl
def tw14363252545137172442:Nat:=0
theorem te14363252545137172442:tw14363252545137172442=0:=rfl
def tw14533628039218594610:Nat:=0
theorem te14533628039218594610:tw14533628039218594610=0:=rfl
def tw15710974394414025635:Nat:=0
theorem te15710974394414025635:tw15710974394414025635=0:=rfl
def tw67490919941867328:Nat:=0
theorem te67490919941867328:tw67490919941867328=0:=rfl
def tw5771880746739339516:Nat:=0
theorem te5771880746739339516:tw5771880746739339516=0:=rfl
def tw5032639547048877924:Nat:=0
theorem te5032639547048877924:tw5032639547048877924=0:=rfl
def tw15505744535306339102:Nat:=0
theorem te15505744535306339102:tw15505744535306339102=0:=rfl
def tw8929132503592173966:Nat:=0
theorem te8929132503592173966:tw8929132503592173966=0:=rfl
def tw8222627690679020908:Nat:=0
theorem te8222627690679020908:tw8222627690679020908=0:=rfl
def tw13302849750497053185:Nat:=0
theorem te13302849750497053185:tw13302849750497053185=0:=rfl
def tw1454315658230248404:Nat:=0
theorem te1454315658230248404:tw1454315658230248404=0:=rfl
def tw4448802390366711492:Nat:=0
theorem te4448802390366711492:tw4448802390366711492=0:=rfl
def tw12071822207629555646:Nat:=0
theorem te12071822207629555646:tw12071822207629555646=0:=rfl
def tw10432156703636778344:Nat:=0
theorem te10432156703636778344:tw10432156703636778344=0:=rfl
def tw1661036339234934014:Nat:=0
theorem te1661036339234934014:tw1661036339234934014=0:=rfl
def tw11844661286875736105:Nat:=0
theorem te11844661286875736105:tw11844661286875736105=0:=rfl
def tw11624900297456989566:Nat:=0
theorem te11624900297456989566:tw11624900297456989566=0:=rfl
def tw4974729183899350249:Nat:=0
theorem te4974729183899350249:tw4974729183899350249=0:=rfl
def tw617349470662142837:Nat:=0
theorem te617349470662142837:tw617349470662142837=0:=rfl
def tw6158607430648025318:Nat:=0
theorem te6158607430648025318:tw6158607430648025318=0:=rfl
def tw13320943021552634922:Nat:=0
theorem te13320943021552634922:tw13320943021552634922=0:=rfl
def tw12827104848535747301:Nat:=0
theorem te12827104848535747301:tw12827104848535747301=0:=rfl
def tw5874392342788418123:Nat:=0
theorem te5874392342788418123:tw5874392342788418123=0:=rfl
def tw17835971526746494105:Nat:=0
theorem te17835971526746494105:tw17835971526746494105=0:=rfl
def tw18113712956904589625:Nat:=0
theorem te18113712956904589625:tw18113712956904589625=0:=rfl
def tw17892800207138994882:Nat:=0
theorem te17892800207138994882:tw17892800207138994882=0:=rfl
def tw10702053381974776593:Nat:=0
theorem te10702053381974776593:tw10702053381974776593=0:=rfl
def tw8312841032031999716:Nat:=0
theorem te8312841032031999716:tw8312841032031999716=0:=rfl
def tw14375433547016740128:Nat:=0
theorem te14375433547016740128:tw14375433547016740128=0:=rfl
def tw13231319262841003203:Nat:=0
theorem te13231319262841003203:tw13231319262841003203=0:=rfl
def tw9579501877824078296:Nat:=0
theorem te9579501877824078296:tw9579501877824078296=0:=rfl
def tw12152427510062498347:Nat:=0
theorem te12152427510062498347:tw12152427510062498347=0:=rfl
def tw12614491567131879959:Nat:=0
theorem te12614491567131879959:tw12614491567131879959=0:=rfl
def tw6205398308514375302:Nat:=0
theorem te6205398308514375302:tw6205398308514375302=0:=rfl
def tw14799965686598459731:Nat:=0
theorem te14799965686598459731:tw14799965686598459731=0:=rfl
def tw6279309008939615310:Nat:=0
theorem te6279309008939615310:tw6279309008939615310=0:=rfl
def tw11999432020201587322:Nat:=0
theorem te11999432020201587322:tw11999432020201587322=0:=rfl
def tw13019968279397795593:Nat:=0
theorem te13019968279397795593:tw13019968279397795593=0:=rfl
def tw4363841636015704099:Nat:=0
theorem te4363841636015704099:tw4363841636015704099=0:=rfl
def tw17603668594223828383:Nat:=0
theorem te17603668594223828383:tw17603668594223828383=0:=rfl
def tw7125890594750643788:Nat:=0
theorem te7125890594750643788:tw7125890594750643788=0:=rfl
def tw6812521022633963880:Nat:=0
theorem te6812521022633963880:tw6812521022633963880=0:=rfl
def tw5124935128084205859:Nat:=0
theorem te5124935128084205859:tw5124935128084205859=0:=rfl
def tw17141709731997590380:Nat:=0
theorem te17141709731997590380:tw17141709731997590380=0:=rfl
def tw15406843073022638078:Nat:=0
theorem te15406843073022638078:tw15406843073022638078=0:=rfl
def tw5912502997548227323:Nat:=0
theorem te5912502997548227323:tw5912502997548227323=0:=rfl
def tw16699201183613276515:Nat:=0
theorem te16699201183613276515:tw16699201183613276515=0:=rfl
def tw6598245392850188396:Nat:=0
theorem te6598245392850188396:tw6598245392850188396=0:=rfl
def tw6979764962046418187:Nat:=0
theorem te6979764962046418187:tw6979764962046418187=0:=rfl
def tw9223898586399173091:Nat:=0
theorem te9223898586399173091:tw9223898586399173091=0:=rfl
def tw15729268866977643546:Nat:=0
theorem te15729268866977643546:tw15729268866977643546=0:=rfl
def tw9245301237578433499:Nat:=0
theorem te9245301237578433499:tw9245301237578433499=0:=rfl
def tw10040274023576041596:Nat:=0
theorem te10040274023576041596:tw10040274023576041596=0:=rfl
def tw1122869445796227364:Nat:=0
theorem te1122869445796227364:tw1122869445796227364=0:=rfl
def tw15758432550432019831:Nat:=0
theorem te15758432550432019831:tw15758432550432019831=0:=rfl
def tw10365557473207418575:Nat:=0
theorem te10365557473207418575:tw10365557473207418575=0:=rfl
def tw12656346477309848799:Nat:=0
theorem te12656346477309848799:tw12656346477309848799=0:=rfl
def tw17337176062846960540:Nat:=0
theorem te17337176062846960540:tw17337176062846960540=0:=rfl
def tw9102626908385993792:Nat:=0
theorem te9102626908385993792:tw9102626908385993792=0:=rfl
def tw11596714140716717591:Nat:=0
theorem te11596714140716717591:tw11596714140716717591=0:=rfl
def tw14595654952894358858:Nat:=0
theorem te14595654952894358858:tw14595654952894358858=0:=rfl
def tw5806160019840874269:Nat:=0
theorem te5806160019840874269:tw5806160019840874269=0:=rfl
def tw11554201345872278051:Nat:=0
theorem te11554201345872278051:tw11554201345872278051=0:=rfl
def tw16750701036739672512:Nat:=0
theorem te16750701036739672512:tw16750701036739672512=0:=rfl
def tw8781758197841180033:Nat:=0
theorem te8781758197841180033:tw8781758197841180033=0:=rfl
def tw2965279015732817461:Nat:=0
theorem te2965279015732817461:tw2965279015732817461=0:=rfl
def tw5189219483290314288:Nat:=0
theorem te5189219483290314288:tw5189219483290314288=0:=rfl
def tw9952013727361503354:Nat:=0
theorem te9952013727361503354:tw9952013727361503354=0:=rfl
def tw15216745719155348537:Nat:=0
theorem te15216745719155348537:tw15216745719155348537=0:=rfl
def tw2873928033529205417:Nat:=0
theorem te2873928033529205417:tw2873928033529205417=0:=rfl
def tw3760779931502460604:Nat:=0
theorem te3760779931502460604:tw3760779931502460604=0:=rfl
def tw11768615880481440638:Nat:=0
theorem te11768615880481440638:tw11768615880481440638=0:=rfl
def tw1638901336828392629:Nat:=0
theorem te1638901336828392629:tw1638901336828392629=0:=rfl
def tw14898319043526746034:Nat:=0
theorem te14898319043526746034:tw14898319043526746034=0:=rfl
def tw3622655457323664820:Nat:=0
theorem te3622655457323664820:tw3622655457323664820=0:=rfl
def tw15907656027333220232:Nat:=0
theorem te15907656027333220232:tw15907656027333220232=0:=rfl
def tw16991525694437439771:Nat:=0
theorem te16991525694437439771:tw16991525694437439771=0:=rfl
def tw4938916176042208901:Nat:=0
theorem te4938916176042208901:tw4938916176042208901=0:=rfl
def tw16314228548165275750:Nat:=0
theorem te16314228548165275750:tw16314228548165275750=0:=rfl
def tw4170029934868730014:Nat:=0
theorem te4170029934868730014:tw4170029934868730014=0:=rfl
def tw6701809280218524604:Nat:=0
theorem te6701809280218524604:tw6701809280218524604=0:=rfl
def tw14063218940914729028:Nat:=0
theorem te14063218940914729028:tw14063218940914729028=0:=rfl
def tw13449629983751425451:Nat:=0
theorem te13449629983751425451:tw13449629983751425451=0:=rfl
def tw392300048285125636:Nat:=0
theorem te392300048285125636:tw392300048285125636=0:=rfl
def tw7947009734531629158:Nat:=0
theorem te7947009734531629158:tw7947009734531629158=0:=rfl
def tw6886581718387929741:Nat:=0
theorem te6886581718387929741:tw6886581718387929741=0:=rfl
def tw341803578674369663:Nat:=0
theorem te341803578674369663:tw341803578674369663=0:=rfl
def tw3029172094970759241:Nat:=0
theorem te3029172094970759241:tw3029172094970759241=0:=rfl
def tw2166643807535209046:Nat:=0
theorem te2166643807535209046:tw2166643807535209046=0:=rfl
def tw2821060738340008252:Nat:=0
theorem te2821060738340008252:tw2821060738340008252=0:=rfl
def tw3724832430401254199:Nat:=0
theorem te3724832430401254199:tw3724832430401254199=0:=rfl
def tw17506703614544238703:Nat:=0
theorem te17506703614544238703:tw17506703614544238703=0:=rfl
def tw1145395736382327996:Nat:=0
theorem te1145395736382327996:tw1145395736382327996=0:=rfl
def tw7022515104981202499:Nat:=0
theorem te7022515104981202499:tw7022515104981202499=0:=rfl
def tw17150943627654156363:Nat:=0
theorem te17150943627654156363:tw17150943627654156363=0:=rfl
def tw7889977731337533420:Nat:=0
theorem te7889977731337533420:tw7889977731337533420=0:=rfl
def tw13918108235431906437:Nat:=0
theorem te13918108235431906437:tw13918108235431906437=0:=rfl
def tw18367036647089885867:Nat:=0
theorem te18367036647089885867:tw18367036647089885867=0:=rfl
def tw17782610763624110477:Nat:=0
theorem te17782610763624110477:tw17782610763624110477=0:=rfl
def tw13263204453264965189:Nat:=0
theorem te13263204453264965189:tw13263204453264965189=0:=rfl
def tw10342575205245356669:Nat:=0
theorem te10342575205245356669:tw10342575205245356669=0:=rfl
def tw7025292104356265790:Nat:=0
theorem te7025292104356265790:tw7025292104356265790=0:=rfl
def tw16131228413738034773:Nat:=0
theorem te16131228413738034773:tw16131228413738034773=0:=rfl
def tw933034714716481616:Nat:=0
theorem te933034714716481616:tw933034714716481616=0:=rfl
def tw11442172693595620360:Nat:=0
theorem te11442172693595620360:tw11442172693595620360=0:=rfl
def tw776688020237256954:Nat:=0
theorem te776688020237256954:tw776688020237256954=0:=rfl
def tw5329059848102801651:Nat:=0
theorem te5329059848102801651:tw5329059848102801651=0:=rfl
def tw15999780557695002624:Nat:=0
theorem te15999780557695002624:tw15999780557695002624=0:=rfl
def tw4511618153832366741:Nat:=0
theorem te4511618153832366741:tw4511618153832366741=0:=rfl
def tw120141199152324068:Nat:=0
theorem te120141199152324068:tw120141199152324068=0:=rfl
def tw13164259363139308222:Nat:=0
theorem te13164259363139308222:tw13164259363139308222=0:=rfl
def tw10170660026117137451:Nat:=0
theorem te10170660026117137451:tw10170660026117137451=0:=rfl
def tw6333536464406905641:Nat:=0
theorem te6333536464406905641:tw6333536464406905641=0:=rfl
def tw1509483750511649455:Nat:=0
theorem te1509483750511649455:tw1509483750511649455=0:=rfl
def tw12850686658307199109:Nat:=0
theorem te12850686658307199109:tw12850686658307199109=0:=rfl
def tw585331219956990844:Nat:=0
theorem te585331219956990844:tw585331219956990844=0:=rfl
def tw5739556014491262567:Nat:=0
theorem te5739556014491262567:tw5739556014491262567=0:=rfl
def tw17514511042743424325:Nat:=0
theorem te17514511042743424325:tw17514511042743424325=0:=rfl
def tw14747866019728991200:Nat:=0
theorem te14747866019728991200:tw14747866019728991200=0:=rfl
def tw10567676899313585373:Nat:=0
theorem te10567676899313585373:tw10567676899313585373=0:=rfl
def tw16240001302929725468:Nat:=0
theorem te16240001302929725468:tw16240001302929725468=0:=rfl
def tw11959177102829219841:Nat:=0
theorem te11959177102829219841:tw11959177102829219841=0:=rfl
def tw4758354365356187215:Nat:=0
theorem te4758354365356187215:tw4758354365356187215=0:=rfl
def tw14683265435963736733:Nat:=0
theorem te14683265435963736733:tw14683265435963736733=0:=rfl
def tw4245244484235931035:Nat:=0
theorem te4245244484235931035:tw4245244484235931035=0:=rfl
def tw17733058013042566988:Nat:=0
theorem te17733058013042566988:tw17733058013042566988=0:=rfl
def tw5639310831770746741:Nat:=0
theorem te5639310831770746741:tw5639310831770746741=0:=rfl
def tw8062661623270478046:Nat:=0
theorem te8062661623270478046:tw8062661623270478046=0:=rfl
def tw17605166886793700674:Nat:=0
theorem te17605166886793700674:tw17605166886793700674=0:=rfl
def tw12935256370527611093:Nat:=0
theorem te12935256370527611093:tw12935256370527611093=0:=rfl
def tw4762884714449201597:Nat:=0
theorem te4762884714449201597:tw4762884714449201597=0:=rfl
def tw1863191201215238138:Nat:=0
theorem te1863191201215238138:tw1863191201215238138=0:=rfl
def tw12493457063627998068:Nat:=0
theorem te12493457063627998068:tw12493457063627998068=0:=rfl
def tw49764243992281633:Nat:=0
theorem te49764243992281633:tw49764243992281633=0:=rfl
def tw882782609176398737:Nat:=0
theorem te882782609176398737:tw882782609176398737=0:=rfl
def tw11282402230826415886:Nat:=0
theorem te11282402230826415886:tw11282402230826415886=0:=rfl
def tw2468311666119146116:Nat:=0
theorem te2468311666119146116:tw2468311666119146116=0:=rfl
def tw10511889033351602671:Nat:=0
theorem te10511889033351602671:tw10511889033351602671=0:=rfl
def tw5102841561297624741:Nat:=0
theorem te5102841561297624741:tw5102841561297624741=0:=rfl
def tw9967962758377482604:Nat:=0
theorem te9967962758377482604:tw9967962758377482604=0:=rfl
def tw7606688023344721512:Nat:=0
theorem te7606688023344721512:tw7606688023344721512=0:=rfl
def tw11476223531629941968:Nat:=0
theorem te11476223531629941968:tw11476223531629941968=0:=rfl
def tw327977293610922967:Nat:=0
theorem te327977293610922967:tw327977293610922967=0:=rfl
def tw14456654804668691368:Nat:=0
theorem te14456654804668691368:tw14456654804668691368=0:=rfl
def tw8187064917722923463:Nat:=0
theorem te8187064917722923463:tw8187064917722923463=0:=rfl
def tw2075774225085869433:Nat:=0
theorem te2075774225085869433:tw2075774225085869433=0:=rfl
def tw220042270745762045:Nat:=0
theorem te220042270745762045:tw220042270745762045=0:=rfl
def tw8613406542387694011:Nat:=0
theorem te8613406542387694011:tw8613406542387694011=0:=rfl
def tw2269919400929226115:Nat:=0
theorem te2269919400929226115:tw2269919400929226115=0:=rfl
def tw17948733752775025818:Nat:=0
theorem te17948733752775025818:tw17948733752775025818=0:=rfl
def tw8218194157762584612:Nat:=0
theorem te8218194157762584612:tw8218194157762584612=0:=rfl
def tw15722251646264749803:Nat:=0
theorem te15722251646264749803:tw15722251646264749803=0:=rfl
def tw4523353723401780663:Nat:=0
theorem te4523353723401780663:tw4523353723401780663=0:=rfl
def tw17436164862314129677:Nat:=0
theorem te17436164862314129677:tw17436164862314129677=0:=rfl
def tw18404399015124072469:Nat:=0
theorem te18404399015124072469:tw18404399015124072469=0:=rfl
def tw14723822963304023459:Nat:=0
theorem te14723822963304023459:tw14723822963304023459=0:=rfl
def tw10230202831940813651:Nat:=0
theorem te10230202831940813651:tw10230202831940813651=0:=rfl
def tw5295072710203879481:Nat:=0
theorem te5295072710203879481:tw5295072710203879481=0:=rfl
def tw15041378401762243400:Nat:=0
theorem te15041378401762243400:tw15041378401762243400=0:=rfl
def tw9672703658217534505:Nat:=0
theorem te9672703658217534505:tw9672703658217534505=0:=rfl
def tw16484332849055475081:Nat:=0
theorem te16484332849055475081:tw16484332849055475081=0:=rfl
def tw12178943140668392099:Nat:=0
theorem te12178943140668392099:tw12178943140668392099=0:=rfl
def tw3145421274248972408:Nat:=0
theorem te3145421274248972408:tw3145421274248972408=0:=rfl
def tw1888831066010328459:Nat:=0
theorem te1888831066010328459:tw1888831066010328459=0:=rfl
def tw9418898824000766861:Nat:=0
theorem te9418898824000766861:tw9418898824000766861=0:=rfl
def tw10334919168837653741:Nat:=0
theorem te10334919168837653741:tw10334919168837653741=0:=rfl
def tw3396715971295741568:Nat:=0
theorem te3396715971295741568:tw3396715971295741568=0:=rfl
def tw10368964593894572979:Nat:=0
theorem te10368964593894572979:tw10368964593894572979=0:=rfl
def tw1755683343969655127:Nat:=0
theorem te1755683343969655127:tw1755683343969655127=0:=rfl
def tw3138670273218515913:Nat:=0
theorem te3138670273218515913:tw3138670273218515913=0:=rfl
def tw16148678818768504246:Nat:=0
theorem te16148678818768504246:tw16148678818768504246=0:=rfl
def tw12958186559602882568:Nat:=0
theorem te12958186559602882568:tw12958186559602882568=0:=rfl
def tw9287061439816186089:Nat:=0
theorem te9287061439816186089:tw9287061439816186089=0:=rfl
def tw2466662698574452760:Nat:=0
theorem te2466662698574452760:tw2466662698574452760=0:=rfl
def tw3594842300972821378:Nat:=0
theorem te3594842300972821378:tw3594842300972821378=0:=rfl
def tw16185761768730164852:Nat:=0
theorem te16185761768730164852:tw16185761768730164852=0:=rfl
def tw14772767900767293222:Nat:=0
theorem te14772767900767293222:tw14772767900767293222=0:=rfl
def tw5813443805710429067:Nat:=0
theorem te5813443805710429067:tw5813443805710429067=0:=rfl
def tw17545539434436134871:Nat:=0
theorem te17545539434436134871:tw17545539434436134871=0:=rfl
def tw4169356414676812724:Nat:=0
theorem te4169356414676812724:tw4169356414676812724=0:=rfl
def tw10129795752958521517:Nat:=0
theorem te10129795752958521517:tw10129795752958521517=0:=rfl
def tw10265257435831335247:Nat:=0
theorem te10265257435831335247:tw10265257435831335247=0:=rfl
def tw6096602583826889755:Nat:=0
theorem te6096602583826889755:tw6096602583826889755=0:=rfl
def tw9436840285097929084:Nat:=0
theorem te9436840285097929084:tw9436840285097929084=0:=rfl
end PySem.W.Fast
set_option maxRecDepth 100000 in
set_option maxHeartbeats 0 in
theorem PySem.Challenge.cw_holdplaces_k05_beside_and_crowned_holds : PySem.Challenge.rw_holdplaces_k05_beside_and_crowned.Holds := by
 w_on;o_law;k_head;(case hw=>w_witness2)
 k_fill
 refine K05.walk (l:=PySem.Challenge.rw_holdplaces_k05_beside_and_crowned) rfl rfl rfl (λw h Y=>PySem.W.kIn_of Y) ?F
 case F=>
  intro w mg h KX N
  refine' K05.all_mk (WB.zE ?_ ?_ ?_ ?_) (WB.zE ?_ ?_ ?_ ?_) (WB.zE ?_ ?_ ?_ ?_) (WB.zE ?_ ?_ ?_ ?_) (WB.zE ?_ ?_ ?_ ?_) (WB.zE ?_ ?_ ?_ ?_) (WB.zE ?_ ?_ ?_ ?_) (WB.zE ?_ ?_ ?_ ?_) (WB.zE ?_ ?_ ?_ ?_) (WB.zE ?_ ?_ ?_ ?_) (WB.zE ?_ ?_ ?_ ?_) (WB.zE ?_ ?_ ?_ ?_) (WB.zE ?_ ?_ ?_ ?_) (WB.zE ?_ ?_ ?_ ?_) (WB.zE ?_ ?_ ?_ ?_) (WB.zE ?_ ?_ ?_ ?_) (WB.zE ?_ ?_ ?_ ?_) (WB.zE ?_ ?_ ?_ ?_) (WB.zE ?_ ?_ ?_ ?_) (WB.zE ?_ ?_ ?_ ?_) (WB.zE ?_ ?_ ?_ ?_) KX N ?_ ?_ ?_ ?_ ?_ ?_ ?_ ?_ ?_ ?_ ?_ ?_ ?_ ?_ ?_ ?_ ?_ ?_ ?_ ?_ ?_ ?_ ?_ ?_ ?_ ?_ ?_ ?_ ?_ ?_ (WB.mr ?w0_1 ?w0_2 ?w0_3 ?w0_4) (WB.mr ?w1_1 ?w1_2 ?w1_3 ?w1_4) (WB.iU ?s0_1 ?s0_2 ?s0_3 ?s0_4 ?s0_5 ?s0_6) ?v0 (WB.iU ?s1_1 ?s1_2 ?s1_3 ?s1_4 ?s1_5 ?s1_6) ?v1 (WB.cA ?t0_1 ?t0_2 ?t0_3) (WB.cA ?t1_1 ?t1_2 ?t1_3) (WB.cA ?t2_1 ?t2_2 ?t2_3) (WB.cA ?t3_1 ?t3_2 ?t3_3) (WB.cA ?t4_1 ?t4_2 ?t4_3) (WB.cA ?t5_1 ?t5_2 ?t5_3) (WB.cA ?t6_1 ?t6_2 ?t6_3) (WB.cA ?t7_1 ?t7_2 ?t7_3) (WB.cA ?t8_1 ?t8_2 ?t8_3) (WB.cA ?t9_1 ?t9_2 ?t9_3) (WB.cA ?t10_1 ?t10_2 ?t10_3) (WB.cA ?t11_1 ?t11_2 ?t11_3) (WB.cA ?t12_1 ?t12_2 ?t12_3) (WB.cA ?t13_1 ?t13_2 ?t13_3) ?q0_1 ?n0_1 ?q0_2 ?n0_2 ?q0_3 ?n0_3 ?q0_4 ?n0_4 ?q0_5 ?n0_5 ?q0_6 ?n0_6 ?q0_7 ?n0_7 ?q0_8 ?n0_8 ?q0_9 ?n0_9 ?q0_10 ?n0_10 ?q0_11 ?n0_11 ?q0_12 ?n0_12 ?q0_13 ?n0_13 ?q1_0 ?n1_0 ?q1_1 ?n1_1 ?q1_2 ?n1_2 ?q1_3 ?n1_3 ?q1_4 ?n1_4 ?q1_5 ?n1_5 ?q1_6 ?n1_6 ?q1_7 ?n1_7 ?q1_8 ?n1_8 ?q1_9 ?n1_9 ?q1_10 ?n1_10 ?q1_11 ?n1_11 ?q1_12 ?n1_12 (L2.oM (WB.iU ?_ ?_ ?_ ?_ ?_ ?_) ?_ ?_ ?_ ?_ (L2.pf ?_ ?_)) (L2.yZ (st:=L2.uc (K05.top 15) 0) (self:="self") ?_ ?_ (by kernel_rfl) (λus hl=>by obtain⟨_,_,_,rfl⟩:=WB.nN hl;rfl))
  any_goals k_is
  any_goals k_exc
  any_goals decide
#print axioms PySem.Challenge.cw_holdplaces_k05_beside_and_crowned_holds
