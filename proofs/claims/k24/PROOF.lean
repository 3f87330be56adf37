import PyProof.Rows.All
import Wide.All
import OpenK.AllK
import Wide.FinOn
import Lean
import PyProof.EqAt
import PyProof.EqKinds
import PyProof.TupleCall
import PyProof.Rows.Range3
import PyProof.Rows.FStr
import PyProof.Rows.ListMulArg
import KE.KSortTup
import KE.LcSums
import PyProof.SeqI3
import KE.KMinBuiltin
import PyProof.ListRange
import PyProof.TupleOfSeq
import PySem.Challenge.RW_holdplaces_k24_two_parts_that_hold_all
set_option Elab.async false
set_option bootstrap.genMatcherCode false
set_option maxHeartbeats 8000000
set_option maxRecDepth 100000
set_option linter.all false
noncomputable section
set_option Elab.async false
namespace L2
open PySem PySem.Spec PyProof.Rows
abbrev Key:=Sum Int Str
noncomputable def qom:Key→Value→Bool
 | .inl k,v=>Value.isInt k v
 | .inr x,v=>Value.isStrOf x v
noncomputable def qtZ(w:World):Key→Int
 | .inl k=>hashInt k
 | .inr x=>hashStr w x
theorem zK:∀{k:Key}{v:Value},qom k v=true→(∃i t,k=Sum.inl i∧v=Value.int i t)∨(∃x t,k=Sum.inr x∧v=Value.str x t)
 | .inl i,v,h=>by
  obtain⟨t,e⟩:=Value.isInt_shape (k:=i) (v:=v) h;exact .inl ⟨i,t,rfl,e⟩
 | .inr x,v,h=>by
  obtain⟨t,e⟩:=Value.isStrOf_shape (x:=x) (v:=v) h;exact .inr ⟨x,t,rfl,e⟩
theorem qsf(a b:Int):decide ((Sum.inl a:Key)=Sum.inl b)=(a==b):=by
 by_cases e:a=b
 ·subst e;simp
 ·have h:¬ (Sum.inl a:Key)=Sum.inl b:=fun q=>e (Sum.inl.inj q)
  rw [decide_eq_false h];exact(beq_eq_false_iff_ne.mpr e).symm
theorem qrE(a b:Str):decide ((Sum.inr a:Key)=Sum.inr b)=decide (a=b):=by
 by_cases e:a=b
 ·subst e;simp
 ·have h:¬ (Sum.inr a:Key)=Sum.inr b:=fun q=>e (Sum.inr.inj q)
  rw [decide_eq_false h,decide_eq_false e]
theorem qri(a:Int)(b:Str):decide ((Sum.inl a:Key)=Sum.inr b)=false:=decide_eq_false (fun q=>nomatch q)
theorem qrz(a:Str)(b:Int):decide ((Sum.inr a:Key)=Sum.inl b)=false:=decide_eq_false (fun q=>nomatch q)
noncomputable def qfE(prog:Program)(w:World):PySem.KeyKind prog w Key where
 is:=qom
 hash:=qtZ w
 inj:=fun v a b ha hb=>by
  rcases zK ha with ⟨i,t,rfl,rfl⟩|⟨x,t,rfl,rfl⟩
  ·rcases zK hb with ⟨j,u,rfl,e⟩|⟨y,u,rfl,e⟩
   ·injection e with e1 _;rw [e1]
   ·exact nomatch e
  ·rcases zK hb with ⟨j,u,rfl,e⟩|⟨y,u,rfl,e⟩
   ·exact nomatch e
   ·injection e with e1 _;rw [e1]
 byValue:=fun k v h=>by
  rcases zK h with ⟨i,t,rfl,rfl⟩|⟨x,t,rfl,rfl⟩<;>rfl
 pyHash:=fun hv h=>by
  rcases zK hv with ⟨i,t,rfl,rfl⟩|⟨x,t,rfl,rfl⟩
  ·exact wpAny_pyHash_int h
  ·exact wpAny_pyHash_str h
 eqBool:=fun hu hv h=>by
  rcases zK hu with ⟨i,t,rfl,rfl⟩|⟨x,t,rfl,rfl⟩
  ·rcases zK hv with ⟨j,u,rfl,rfl⟩|⟨y,u,rfl,rfl⟩
   ·rw [qsf]at h;exact wpAny_eqBool_int h
   ·rw [qri]at h;exact SeqAt.EqAt.int_str i t y u _ _ _ _ h
  ·rcases zK hv with ⟨j,u,rfl,rfl⟩|⟨y,u,rfl,rfl⟩
   ·rw [qrz]at h;exact SeqAt.EqAt.str_int x t j u _ _ _ _ h
   ·rw [qrE]at h;exact wpAny_eqBool_str h
 «strs»:=fun k x t v h=>by
  rcases zK h with ⟨i,u,rfl,e⟩|⟨y,u,rfl,e⟩
  ·exact nomatch e
  ·injection e with e1 _
   subst e1;cases v<;>rfl
inductive V where
 |non|bl (b:Bool)|int (i:Int)|str (x:Str)|byt (b:Array UInt8)|flt (b:UInt64)|ref (a:Addr)|ty (n:String)
 deriving DecidableEq
noncomputable def RelV:V→Value→Prop
 | .non,u=>u=Value.none
 | .bl b,u=>u=Value.bool b
 | .int i,u=>∃t,u=Value.int i t
 | .str x,u=>∃t,u=Value.str x t
 | .byt b,u=>∃t,u=Value.bytes b t
 | .flt b,u=>∃t,u=Value.float b t
 | .ref a,u=>u=Value.ref a
 | .ty n,u=>u=Value.type n
abbrev Vals:List V→List Value→Prop:=Paired RelV
theorem Vals.length{xs:List V}{us:List Value}(r:Vals xs us):xs.length=us.length:=Paired.length r
theorem Vals.get:∀{xs:List V}{us:List Value}{i:Nat}{x:V},Vals xs us→xs[i]? = some x→∃u,us[i]? = some u∧RelV x u
 |_,_,_,_,.nil,e=>by simp at e
 |_,_,0,_,.cons r _,e=>by simp at e;subst e;exact⟨_,rfl,r⟩
 |_,_,i+1,x,.cons _ t,e=>by
  obtain⟨u,h1,h2⟩:=Vals.get (i:=i) (x:=x) t (by simpa using e);exact⟨u,by simpa using h1,h2⟩
theorem Vals.set{x:V}{u:Value}(r:RelV x u):∀{xs:List V}{us:List Value} (i:Nat),Vals xs us→Vals (xs.set i x) (us.set i u)
 |_,_,_,.nil=>.nil
 |_,_,0,.cons _ t=>.cons r t
 |_,_,i+1,.cons q t=>.cons q (Vals.set r i t)
theorem Vals.append:∀{xs ys:List V}{us ws:List Value},Vals xs us→Vals ys ws→Vals (xs++ys) (us++ws)
 |_,_,_,_,.nil,s=>s
 |_,_,_,_,.cons r t,s=>.cons r (Vals.append t s)
theorem Vals.take:∀{xs:List V}{us:List Value} (n:Nat),Vals xs us→Vals (xs.take n) (us.take n)
 |_,_,0,_=>.nil
 |_,_,_+1,.nil=>.nil
 |_,_,n+1,.cons r t=>.cons r (Vals.take n t)
theorem Vals.drop:∀{xs:List V}{us:List Value} (n:Nat),Vals xs us→Vals (xs.drop n) (us.drop n)
 |_,_,0,r=>r
 |_,_,_+1,.nil=>.nil
 |_,_,n+1,.cons _ t=>Vals.drop n t
noncomputable def qne:Option V→Option Value→Prop
 |some v,some u=>RelV v u
 |none,none=>True
 |_,_=>False
noncomputable def KV{κ:Type}:List (κ×V)→List (κ×Value)→Prop:=Paired fun(p:κ×V) (q:κ×Value)=>p.1=q.1∧RelV p.2 q.2
noncomputable def kV:Key→V
 | .inl i=>.int i
 | .inr x=>.str x
inductive HO where
 |lst (xs:List V)
 |tup (xs:List V)
 |dK (kvs:List (Key×V))|dT (kvs:List (List Key×V))
 |set (S:Int→Bool) (n:Nat)
 |ins (C dx:Addr) (fs:List (Str×V))
 |own (x:Addr)
 |xd (fs:List (Str×V))
 |met (f x:Addr)
 |rng (lo hi:Int)
 |frz (o:Obj) (u:HO)
 |tbl (ps:Array Value)
 |ext (φ:Heap→Prop)
abbrev Hp:=Addr→Option HO
noncomputable def upd(H:Hp)(a:Addr)(o:HO):Hp:=fun b=>if b=a then some o else H b
theorem zq{H:Hp}{a:Addr}{o:HO}:upd H a o a=some o:=by unfold upd;rw [if_pos rfl]
theorem qt{H:Hp}{a b:Addr}{o:HO}(h:b≠a):upd H a o b=H b:=by unfold upd;rw [if_neg h]
theorem qbt{H:Hp}{a b:Addr}{o:HO}(h:H a=some o)(h':H b=none):a≠b:=by
 intro e;subst e;rw [h]at h';cases h'
section
variable(P:Program)(w:World)
noncomputable def zM(H:Hp)(h:Heap)(a:Addr):HO→Prop
 | .lst xs=>xs.length≤sizeLine∧∃(its:List Value) (n:Nat),Vals xs its∧h.get? a=some {cls:=.type "list",data:=.seq its.toArray n}
 | .tup xs=>xs.length≤sizeLine∧∃its:List Value,Vals xs its∧IsTup h a its.toArray
 | .dK kvs=>kvs.length≤sizeLine∧(a==sysModules)=false∧∃vs,KV kvs vs∧h.DictOf (qfE P w) a vs
 | .dT kvs=>kvs.length≤sizeLine∧(a==sysModules)=false∧∃xs:List (List Key×Addr×Value),
   Paired (fun(p:List Key×V) (q:List Key×Addr×Value)=>p.1=q.1∧H q.2.1=some (.tup (p.1.map kV))∧RelV p.2 q.2.2) kvs xs ∧
   ∃o es ep,h.get? a=some o∧o.ExactDict∧o.data=.dict es ep∧es.toList=xs.map (entryOfKey (tupleKind (qfE P w)))∧(xs.map (·.1)).Nodup
 | .set S n=>h.SetOf (intKind P w) a S n
 | .ins C dx fs=>H dx=some (.own a)∧fs.length≤1000∧dx≠a∧h.get? a=some (PySem.W.instObj C dx) ∧
   ∃mA,h.Ns1 dx mA∧(∀f,qne (fs.lookup f) (mA f))∧PySem.Within mA (fs.map (·.1))
 | .own _=>∃o,h.get? a=some o
 | .xd fs=>∃mA,h.Ns1 a mA∧∀f,qne (fs.lookup f) (mA f)
 | .rng lo hi=>∃t u v,h.get? a=some {cls:=.type "range",data:=.fields #[.int lo t,.int hi u,.int 1 v]}
 | .frz o u=>h.get? a=some o∧zM H h a u
 | .tbl ps=>h.get? a=some {cls:=.none,data:=.fields ps}
 | .met f x=>h.get? a=some (PySem.W.methodObj (.ref f) (.ref x))
 | .ext φ=>φ h∧(∃o,h.get? a=some o)∧∀h1 h2:Heap,φ h1→(∀o,h1.get? a=some o→h2.get? a=some o)→φ h2
noncomputable def HOk(H:Hp)(h:Heap):Prop:=∀a o,H a=some o→zM P w H h a o
end
section
variable{P:Program}{w:World}{H H':Hp}{h h':Heap}{a:Addr}{o:HO}
theorem zM.lt(x:zM P w H h a o):a<h.objs.size:=by
 cases o with
 |lst xs=>obtain⟨_,_,_,_,e⟩:=x;exact Heap.lt_size e
 |tup xs=>obtain⟨_,_,_,p⟩:=x;exact p.lt
 |dK kvs=>obtain⟨_,_,_,_,o,_,_,e,_⟩:=x;exact Heap.lt_size e
 |dT kvs=>obtain⟨_,_,_,_,o,_,_,e,_⟩:=x;exact Heap.lt_size e
 |set S n=>obtain⟨o,_,_,_,e,_⟩:=x;exact Heap.lt_size e
 |ins C dx fs=>obtain⟨_,_,_,e,_⟩:=x;exact Heap.lt_size e
 |own y=>obtain⟨_,e⟩:=x;exact Heap.lt_size e
 |xd fs=>obtain⟨_,⟨_,_,_,e,_⟩,_⟩:=x;exact Heap.lt_size e
 |rng lo hi=>obtain⟨_,_,_,e⟩:=x;exact Heap.lt_size e
 |frz ob u=>obtain⟨e,_⟩:=x;exact Heap.lt_size e
 |tbl ps=>exact Heap.lt_size (show h.get? a=some _ from x)
 |met f y=>exact Heap.lt_size (show h.get? a=some _ from x)
 |ext φ=>obtain⟨_,⟨_,e⟩,_⟩:=x;exact Heap.lt_size e
theorem Paired.mapP{α β:Type}{F G:α→β→Prop}:∀{l₁:List α}{l₂:List β},Paired F l₁ l₂→(∀a b,F a b→G a b)→Paired G l₁ l₂
 |_,_,.nil,_=>.nil
 |_,_,.cons r t,f=>.cons (f _ _ r) (Paired.mapP t f)
theorem zM.stay(x:zM P w H h a o)(k:∀b u,(b=a∨H b=some (.own a))→h.get? b=some u→h'.get? b=some u)
  (ho:∀b,H b=some (.own a)→H' b=some (.own a)) (ht:∀b xs,H b=some (.tup xs)→H' b=some (.tup xs)):zM P w H' h' a o:=by
 induction o with
 |lst xs=>obtain⟨z,its,n,r,e⟩:=x;exact⟨z,its,n,r,k _ _ (.inl rfl) e⟩
 |tup xs=>obtain⟨z,its,r,ob,e,c⟩:=x;exact⟨z,its,r,ob,k _ _ (.inl rfl) e,c⟩
 |dK kvs=>obtain⟨z,y,vs,r,ob,es,ep,e,c⟩:=x;exact⟨z,y,vs,r,ob,es,ep,k _ _ (.inl rfl) e,c⟩
 |dT kvs=>
  obtain⟨z,y,xs,r,ob,es,ep,e,c⟩:=x;exact⟨z,y,xs,Paired.mapP r fun p q z=>⟨z.1,ht _ _ z.2.1,z.2.2⟩,ob,es,ep,k _ _ (.inl rfl) e,c⟩
 |set S n=>obtain⟨ob,es,ep,t,e,c⟩:=x;exact⟨ob,es,ep,t,k _ _ (.inl rfl) e,c⟩
 |ins C dx fs=>
  obtain⟨d,z,ne,e,mA,⟨od,es,ep,e2,c⟩,r⟩:=x;exact⟨ho _ d,z,ne,k _ _ (.inl rfl) e,mA,⟨od,es,ep,k _ _ (.inr d) e2,c⟩,r⟩
 |own y=>obtain⟨ob,e⟩:=x;exact⟨ob,k _ _ (.inl rfl) e⟩
 |xd fs=>obtain⟨mA,⟨od,es,ep,e,c⟩,r⟩:=x;exact⟨mA,⟨od,es,ep,k _ _ (.inl rfl) e,c⟩,r⟩
 |rng lo hi=>obtain⟨t,u,v,e⟩:=x;exact⟨t,u,v,k _ _ (.inl rfl) e⟩
 |frz ob u ih=>obtain⟨e,q⟩:=x;exact⟨k _ _ (.inl rfl) e,ih q⟩
 |tbl ps=>
  have e:h.get? a=some {cls:=.none,data:=.fields ps}:=x;show h'.get? a=some {cls:=.none,data:=.fields ps};exact k a _ (.inl rfl) e
 |met f y=>
  have e:h.get? a=some (PySem.W.methodObj (.ref f) (.ref y)):=x;show h'.get? a=some (PySem.W.methodObj (.ref f) (.ref y));exact k a _ (.inl rfl) e
 |ext φ=>obtain⟨p,⟨o,e⟩,st⟩:=x;exact⟨st _ _ p fun o q=>k _ _ (.inl rfl) q,⟨o,k _ _ (.inl rfl) e⟩,st⟩
theorem HOk.lt(x:HOk P w H h)(e:H a=some o):a<h.objs.size:=(x a o e).lt
theorem HOk.fresh(x:HOk P w H h)(e:h.objs.size≤a):H a=none:=by
 cases q:H a with
 |none=>rfl
 |some u=>exact absurd (Nat.lt_of_lt_of_le (x.lt q) e) (Nat.lt_irrefl _)
theorem HOk.kept(x:HOk P w H h)(k:∀b u,h.get? b=some u→h'.get? b=some u):HOk P w H h':=fun a o e=>
 (x a o e).stay (fun b u _ q=>k b u q) (fun _ q=>q) fun _ _ q=>q
theorem HOk.laid(x:HOk P w H h)(k:∀b u,h.get? b=some u→h'.get? b=some u)(hp:h.objs.size≤a)(new:zM P w (upd H a o) h' a o):HOk P w (upd H a o) h':=fun b u e=>by
 have hn:=x.fresh hp;by_cases hb:b=a
 ·subst hb;rw [zq]at e;cases e;exact new
 ·rw [qt hb]at e;exact(x b u e).stay (fun c v _ q=>k c v q) (fun c q=>by rw [qt (qbt q hn)];exact q) fun c xs q=>by rw [qt (qbt q hn)];exact q
end
noncomputable def Rd(H:Hp)(a:Addr)(u:HO):Prop:=H a=some u∨∃o,H a=some (.frz o u)
theorem Rd.of{H:Hp}{a:Addr}{u:HO}(h:H a=some u):Rd H a u:=.inl h
theorem Rd.ok{P:Program}{w:World}{H:Hp}{h:Heap}{a:Addr}{u:HO}(r:Rd H a u)(x:HOk P w H h):zM P w H h a u:=by
 rcases r with r|⟨o,r⟩
 ·exact x a u r
 ·obtain⟨_,q⟩:=x a _ r;exact q
noncomputable def Mut:Option HO→Prop
 |some (.lst _)=>True
 |some (.dK _)=>True
 |some (.dT _)=>True
 |some (.set _ _)=>True
 |some (.ins _ _ _)=>True
 |some (.ext _)=>True
 |_=>False
section
variable{P:Program}{w:World}{H:Hp}{h h':Heap}{x e:Addr}{o':HO}
theorem HOk.write(ok:HOk P w H h)(mu:Mut (H x))(he:e=x∨H e=some (.own x))(k:∀b u,b≠e→h.get? b=some u→h'.get? b=some u)(heo:∃u,h'.get? e=some u)
  (new:zM P w (upd H x o') h' x o'):HOk P w (upd H x o') h':=fun b u q=>by
 have nown:∀c y,H c=some (.own y)→c≠x:=fun c y r z=>by subst z;rw [r]at mu;exact mu
 have ntup:∀c xs,H c=some (.tup xs)→c≠x:=fun c xs r z=>by subst z;rw [r]at mu;exact mu
 by_cases hb:b=x
 ·subst hb;rw [zq]at q;cases q;exact new
 ·rw [qt hb]at q;by_cases hbe:b=e
  ·have q':H b=some (.own x):=by
    rcases he with z|z
    ·exact absurd (hbe.trans z) hb
    ·rw [hbe];exact z
   rw [q]at q';cases q';obtain⟨v,hv⟩:=heo;exact⟨v,by rw [hbe];exact hv⟩
  ·refine(ok b u q).stay (fun c v hc r=>k c v ?_ r) (fun c r=>by rw [qt (nown c b r)];exact r) fun c xs r=>by rw [qt (ntup c xs r)];exact r
   rcases hc with rfl|hc
   ·exact hbe
   ·rintro rfl;rcases he with z|z
    ·exact nown c b hc z
    ·rw [hc]at z;cases z;exact hb rfl
end
structure Un(fs ex:List Addr)(H H':Hp)(h h':Heap):Prop where
 keep:∀b o,h.get? b=some o→H b=none→b∉fs→b∉ex→h'.get? b=some o
 slot:∀b o,h.get? b=some o→H b=none→b∈fs→b∉ex→∃sl,h'.get? b=some {o with slots:=sl}
 free:∀b o,h.get? b=some o→H b=none→b∉ex→H' b=none
 there:∀b o,h.get? b=some o→b∉ex→∃o',h'.get? b=some o'
 tups:∀b xs,H b=some (.tup xs)→H' b=some (.tup xs)
 frzs:∀b o u,H b=some (.frz o u)→H' b=some (.frz o u)
 tbls:∀b ps,H b=some (.tbl ps)→∃more,H' b=some (.tbl (ps++more))
section
variable{fs fs' ex ex':List Addr}{H H1 H2:Hp}{h h1 h2 h':Heap}{a x e:Addr}{o:HO}
theorem Un.any(u:Un fs ex H H1 h h1){b:Addr}{ob:Obj}(q:h.get? b=some ob)(n:H b=none)(hx:b∉ex):∃sl,h1.get? b=some {ob with slots:=sl}:=by
 by_cases hb:b∈fs
 ·exact u.slot b ob q n hb hx
 ·exact⟨ob.slots,u.keep b ob q n hb hx⟩
theorem Un.kept(k:∀b u,h.get? b=some u→h'.get? b=some u):Un fs ex H H h h':=
 ⟨fun b ob q _ _ _=>k b ob q,fun b ob q _ _ _=>⟨ob.slots,k b ob q⟩,fun _ _ _ n _=>n,fun b ob q _=>⟨ob,k b ob q⟩,fun _ _ q=>q,fun _ _ _ q=>q,fun _ ps q=>⟨#[],by rw [q];simp⟩⟩
theorem Un.refl:Un fs ex H H h h:=Un.kept fun _ _ q=>q
theorem Un.laid(k:∀b u,h.get? b=some u→h'.get? b=some u)(hp:h.objs.size≤a)(hn:H a=none):Un fs ex H (upd H a o) h h' where
 keep:=fun b u q _ _ _=>k b u q
 slot:=fun b u q _ _ _=>⟨u.slots,k b u q⟩
 free:=fun b u q n _=>by rw [qt (Nat.ne_of_lt (Nat.lt_of_lt_of_le (Heap.lt_size q) hp))];exact n
 there:=fun b u q _=>⟨u,k b u q⟩
 tups:=fun b xs q=>by rw [qt (qbt q hn)];exact q
 frzs:=fun b u xs q=>by rw [qt (qbt q hn)];exact q
 tbls:=fun b ps q=>⟨#[],by rw [qt (qbt q hn),q];simp⟩
theorem Un.write(mu:Mut (H x))(he:e=x∨H e=some (.own x))(k:∀b u,b≠e→h.get? b=some u→h'.get? b=some u)(heo:∃u,h'.get? e=some u):Un fs ex H (upd H x o) h h':=by
 have hx:∀b,H b=none→b≠x:=fun b n z=>by subst z;rw [n]at mu;exact mu
 have hb:∀b,H b=none→b≠e:=fun b n z=>by
  subst z;rcases he with r|r
  ·exact hx b n r
  ·rw [n]at r;cases r
 have hm:∀b u,H b=some u→¬ Mut (some u)→b≠x:=fun b u q nm z=>by subst z;rw [q]at mu;exact nm mu
 refine⟨fun b u q n _ _=>k b u (hb b n) q,fun b u q n _ _=>⟨u.slots,k b u (hb b n) q⟩,fun b u q n _=>by rw [qt (hx b n)];exact n,fun b u q _=>?_,
  fun b xs q=>by rw [qt (hm b _ q fun z=>z)];exact q,fun b u xs q=>by rw [qt (hm b _ q fun z=>z)];exact q,fun b ps q=>⟨#[],by rw [qt (hm b _ q fun z=>z),q];simp⟩⟩
 by_cases hbe:b=e
 ·subst hbe;exact heo
 ·exact⟨u,k b u hbe q⟩
end
noncomputable def trk(h:Heap)(H:Hp):List Addr:=(List.range h.objs.size).filter fun a=>(H a).isSome
noncomputable def qdh(h:Heap)(H:Hp):Heap:=PySem.W.hideAll h (trk h H)
theorem qkI(h:Heap)(H:Hp):(qdh h H).objs.size=h.objs.size:=PySem.W.hideAll_size _ _
theorem qmG{h:Heap}{H:Hp}{b:Addr}{o:Obj}(e:h.get? b=some o)(n:H b=none):(qdh h H).get? b=some o:=
 PySem.W.hideAll_get _ e fun hm=>by
  have q:(H b).isSome=true:=(List.mem_filter.mp hm).2;rw [n]at q;simp at q
theorem qoT{h:Heap}{H:Hp}{b:Addr}{o:Obj}(e:(qdh h H).get? b=some o):h.get? b=some o∧H b=none:=by
 have e':h.get? b=some o:=PySem.W.of_hideAll (trk h H) e;refine⟨e',?_⟩;cases q:H b with
 |none=>rfl
 |some x=>
  have hm:b∈trk h H:=List.mem_filter.mpr ⟨List.mem_range.mpr (Heap.lt_size e'),by simp [q]⟩;have z:(qdh h H).get? b=none:=PySem.W.hideAll_none (trk h H) hm;rw [z]at e;cases e
noncomputable def qeo(g h:Heap)(L:Addr):List (Addr×Obj):=(List.range h.objs.size).filterMap fun a=>if a=L∨(g.get? a).isSome=true then none else (h.get? a).map fun o=>(a,o)
theorem qey{g h:Heap}{L a:Addr}{o:Obj}(h1:a≠L)(h2:g.get? a=none)(h3:h.get? a=some o):(a,o)∈qeo g h L:=
 List.mem_filterMap.mpr ⟨a,List.mem_range.mpr (Heap.lt_size h3),by simp [h1,h2,h3]⟩
theorem qfG{g h:Heap}{L:Addr}{p:Addr×Obj}(hp:p∈qeo g h L):p.1≠L∧g.get? p.1=none∧h.get? p.1=some p.2:=by
 obtain⟨b,_,e⟩:=List.mem_filterMap.mp hp;split at e
 ·cases e
 ·rename_i hn
  cases q:h.get? b with
  |none=>rw [q]at e;simp at e
  |some u=>
   rw [q]at e;simp only [Option.map_some,Option.some.injEq]at e;subst e;refine⟨fun z=>hn (.inl z),?_,q⟩;show g.get? b=none;cases r:g.get? b with
   |none=>rfl
   |some v=>exact(hn (.inr (by simp [r]))).elim
noncomputable def rest(g h:Heap)(L d:Addr):List (Addr×Obj):=(qeo g h L).filter fun p=>decide (p.1≠d)
theorem qnC{g h:Heap}{L:Addr}:News g L h (qeo g h L):=fun p hp=>let ⟨a,b,c⟩:=qfG hp;⟨c,a,b⟩
structure Mod(K:PySem.W.Frag)(mg:Str→Option Value)(base:Heap):Prop where
 kin:K.In base
 glob:base.Ns mainGlobals mg
 blt:∃mb,base.Ns builtinsNs mb∧∀x:Str,x≠"__name__"→mb x=bootBuiltins x
 nolimit:base.NoLimit
structure Cx where
 prog:Program
 w:World
 K:PySem.W.Frag
 mg:Str→Option Value
 base:Heap
 A:Around
 N:List Str
 s₀:Shared
 H₀:Hp
 env:Env
 outer:List Env
 stack:List Env
 ex:List Addr
 fn:Str→Bool
 calm:Bool
 pn:List (Addr×Obj)
 xe:Value→Shared→Prop
noncomputable def frs(l:List Env):List Addr:=l.filterMap (·.frame)
abbrev Cx.fs(X:Cx):List Addr:=frs X.outer
noncomputable def Vis(sc:Scope)(x:Str):Prop:=sc.names.lookup x=some .local∨sc.names.lookup x=some .cell∨sc.names.lookup x=some .free
noncomputable def Loc(sc:Scope)(x:Str):Prop:=sc.names.lookup x=some .local∨sc.names.lookup x=some .cell
noncomputable def Look(env:Env)(h:Heap)(m:Str→Option Value)(x:Str)(u:Value):Prop:=
 (env.kindOf x=some .local∧m x=some u)∨((env.kindOf x=some .cell∨env.kindOf x=some .free)∧∃c,env.cells.lookup x=some c∧h.IsCell c (some u))
structure Cx.Ok(X:Cx):Prop where
 mod:Mod X.K X.mg X.base
 kind:X.env.scope.kind=.function
 glob:X.env.globals=mainGlobals
 blt:X.env.builtins=builtinsNs
 above:X.s₀.heap.objs.size≤X.env.locals
 inj:∀x y c,X.env.cells.lookup x=some c→X.env.cells.lookup y=some c→x=y
 has:∀x,(X.env.kindOf x=some .cell∨X.env.kindOf x=some .free)→∃c,X.env.cells.lookup x=some c
 cab:∀x c,X.fn x=true→X.env.cells.lookup x=some c→X.s₀.heap.objs.size≤c
 hd:X.calm=true→X.A.handled=none
 frames:X.A.frames=some X.stack
 stk:X.stack=X.outer∨(X.stack=X.env::X.outer∧X.env.frame=some X.env.locals)
 exf:∀b∈X.ex,b≠X.env.locals∧∀x c,X.env.cells.lookup x=some c→c≠b
 bs:∀b o,X.base.get? b=some o→X.s₀.heap.get? b=some o∧X.H₀ b=none
 bsz:X.base.objs.size≤X.s₀.heap.objs.size
 noex:∀b o,X.base.get? b=some o→b∉X.ex
 exfs:∀b∈X.ex,b∉X.fs
 funs:X.s₀.heap.FunFrames X.base X.outer
 frf:∀b∈X.fs,X.H₀ b=none
structure Inv(X:Cx)(pins:List (Addr×Obj))(σ:List (Option V))(H:Hp)(s:Shared):Prop where
 ok:X.Ok
 os:s.os=X.s₀.os
 bare:AllBare s.gens
 base:Un X.fs X.ex X.H₀ H X.s₀.heap s.heap
 loc:∃m,s.heap.Ns X.env.locals m∧∀(i:Nat) (x:Str) (v:V),X.N[i]? = some x→σ[i]? = some (some v)→Vis X.env.scope x→∃u,RelV v u∧Look X.env s.heap m x u
 cell:∀x c,X.env.cells.lookup x=some c→∃v,s.heap.IsCell c v
 free:H X.env.locals=none
 freeC:∀x c,X.env.cells.lookup x=some c→H c=none
 pin:∀p∈X.pn++pins,s.heap.get? p.1=some p.2∧H p.1=none∧p.1≠X.env.locals∧p.1∉X.fs∧∀v,p.2.data≠.cell v
 hok:HOk X.prog X.w H s.heap
 len:σ.length=X.N.length
section
variable{X:Cx}{pins:List (Addr×Obj)}{σ:List (Option V)}{H H':Hp}{s:Shared}{h':Heap}
theorem Cx.Ok.nofr(ok:X.Ok){b:Addr}{o:Obj}(e:X.base.get? b=some o):b∉X.fs:=fun hb=>by
 have:=(ok.funs.mem hb).1;rw [e]at this;cases this
theorem Inv.bs(I:Inv X pins σ H s):∀b o,X.base.get? b=some o→s.heap.get? b=some o∧H b=none:=fun b o e=>
 ⟨I.base.keep b o (I.ok.bs b o e).1 (I.ok.bs b o e).2 (I.ok.nofr e) (I.ok.noex b o e),I.base.free b o (I.ok.bs b o e).1 (I.ok.bs b o e).2 (I.ok.noex b o e)⟩
theorem Inv.bk(I:Inv X pins σ H s):∀b o,X.base.get? b=some o→s.heap.get? b=some o:=fun b o e=>(I.bs b o e).1
theorem Inv.mod(I:Inv X pins σ H s):Mod X.K X.mg X.base:=I.ok.mod
theorem Inv.kIn(I:Inv X pins σ H s):X.K.In s.heap:=I.ok.mod.kin.keeps I.bk
theorem Inv.nolimit(I:Inv X pins σ H s):s.heap.NoLimit:=I.ok.mod.nolimit.keeps I.bk
theorem Inv.fr(I:Inv X pins σ H s):∃m,Fr X.base X.env.locals s.heap m:=
 let ⟨m,hn,_⟩:=I.loc
 ⟨m,hn,I.bk,Nat.le_trans I.ok.bsz I.ok.above⟩
theorem Inv.lt(I:Inv X pins σ H s):X.env.locals<s.heap.objs.size:=let ⟨_,hn,_⟩:=I.loc;hn.lt
theorem Inv.sz(I:Inv X pins σ H s):X.s₀.heap.objs.size≤s.heap.objs.size:=Nat.le_trans I.ok.above (Nat.le_of_lt I.lt)
theorem Inv.nofs(I:Inv X pins σ H s){a:Addr}(h:s.heap.objs.size≤a):a∉X.fs:=fun hb=>by
 obtain⟨_,o,ho,_⟩:=I.ok.funs.mem hb;exact absurd (Nat.lt_of_lt_of_le (Heap.lt_size ho) (Nat.le_trans I.sz h)) (Nat.lt_irrefl _)
theorem Inv.cne(I:Inv X pins σ H s):∀x c,X.env.cells.lookup x=some c→c≠X.env.locals:=fun x c e z=>by
 obtain⟨v,o,ho,hd⟩:=I.cell x c e;obtain⟨m,⟨o',es,ep,ho',hd',_⟩,_⟩:=I.loc;rw [z,ho']at ho;cases ho;rw [hd']at hd;cases hd
theorem Inv.funs(I:Inv X pins σ H s):s.heap.FunFrames X.base X.outer:=by
 have all:∀(l:List Env),(∀b∈frs l,b∈X.fs)→X.s₀.heap.FunFrames X.base l→s.heap.FunFrames X.base l:=by
  intro l
  induction l with
  |nil=>intro _ _;trivial
  |cons env r ih=>
   intro hs hl;obtain⟨hk,⟨L,o,hf,hn,ho,hd⟩,hr⟩:=hl;have hL:L∈X.fs:=hs L (by unfold frs;rw [List.filterMap_cons,hf];exact List.mem_cons_self);obtain⟨sl,e⟩:=I.base.slot L o ho (I.ok.frf L hL) hL fun z=>I.ok.exfs L z hL
   exact⟨hk,⟨L,_,hf,hn,e,hd⟩,ih (fun b hb=>hs b (by unfold frs;rw [List.filterMap_cons,hf];exact List.mem_cons_of_mem _ hb)) hr⟩
 exact all X.outer (fun _ hb=>hb) I.ok.funs
theorem Inv.stack(I:Inv X pins σ H s):s.heap.FunFrames X.base X.stack:=by
 rcases I.ok.stk with e|⟨e,hf⟩
 ·rw [e];exact I.funs
 ·rw [e];obtain⟨m,hn,_⟩:=I.loc;refine .cons (by rw [I.ok.kind];decide) hf hn ?_ I.funs;exact Heap.get?_none_of_le (Nat.le_trans I.ok.bsz I.ok.above)
theorem Inv.stkSub(I:Inv X pins σ H s):∀b∈frs X.stack,b∈X.env.locals::X.fs:=fun b hb=>by
 rcases I.ok.stk with e|⟨e,hf⟩
 ·rw [e]at hb;exact List.mem_cons_of_mem _ hb
 ·rw [e]at hb;unfold frs at hb;rw [List.filterMap_cons,hf]at hb;exact hb
theorem Inv.stkFree(I:Inv X pins σ H s):∀b∈frs X.stack,H b=none:=fun b hb=>by
 rcases List.mem_cons.mp (I.stkSub b hb)with e|hb
 ·rw [e];exact I.free
 ·obtain⟨_,o,ho,_⟩:=I.ok.funs.mem hb;exact I.base.free b o ho (I.ok.frf b hb) fun z=>I.ok.exfs b z hb
theorem Inv.step{g':Array GenState}{t':Nat}{d':Drawn}{ch:List Addr}(I:Inv X pins σ H s)
  (hch:∀b∈ch,(b∈X.ex∨X.s₀.heap.objs.size≤b)∧b≠X.env.locals∧(∀x c,X.env.cells.lookup x=some c→c≠b)∧∀p∈X.pn++pins,p.1≠b)
  (keep:∀b o,b≠X.env.locals→b∉X.fs→b∉ch→s.heap.get? b=some o→H b=none→h'.get? b=some o)
  (slot:∀b o,b≠X.env.locals→b∈X.fs→b∉ch→s.heap.get? b=some o→H b=none→∃sl,h'.get? b=some {o with slots:=sl}) (free:∀b o,b∉ch→s.heap.get? b=some o→H b=none→H' b=none)
  (there:∀b o,b∉ch→s.heap.get? b=some o→∃o',h'.get? b=some o')
  (tups:∀b xs,H b=some (.tup xs)→H' b=some (.tup xs)) (frzs:∀b o u,H b=some (.frz o u)→H' b=some (.frz o u)) (tbls:∀b ps,H b=some (.tbl ps)→∃more,H' b=some (.tbl (ps++more)))
  (ns:∀m,s.heap.Ns X.env.locals m→h'.Ns X.env.locals m) (hok:HOk X.prog X.w H' h') (hg:AllBare g') :
  Inv X pins σ H' {s with heap:=h',gens:=g',drawn:=d',toks:=t'}:=by
 have neL:∀b o,X.s₀.heap.get? b=some o→b≠X.env.locals:=fun b o e=>Nat.ne_of_lt (Nat.lt_of_lt_of_le (Heap.lt_size e) I.ok.above)
 have neC:∀b o,X.s₀.heap.get? b=some o→b∉X.ex→b∉ch:=fun b o e hx hb=>by
  rcases(hch b hb).1 with z|z
  ·exact hx z
  ·exact absurd (Nat.lt_of_lt_of_le (Heap.lt_size e) z) (Nat.lt_irrefl _)
 have cellK:∀x c,X.env.cells.lookup x=some c→∀v,s.heap.IsCell c v→h'.IsCell c v:=fun x c e v ⟨o,ho,hd⟩=>by
  have nch:c∉ch:=fun z=>(hch c z).2.2.1 x c e rfl
  by_cases hc:c∈X.fs
  ·obtain⟨sl,q⟩:=slot c o (I.cne x c e) hc nch ho (I.freeC x c e);exact⟨_,q,hd⟩
  ·exact⟨o,keep c o (I.cne x c e) hc nch ho (I.freeC x c e),hd⟩
 refine⟨I.ok,I.os,hg,⟨fun b o e n hb hx=>?_,fun b o e n hb hx=>?_,fun b o e n hx=>?_,fun b o e hx=>?_,fun b xs e=>tups b xs (I.base.tups b xs e),fun b o xs e=>frzs b o xs (I.base.frzs b o xs e),fun b ps e=>?_⟩,?_,fun x c e=>?_,?_,fun x c e=>?_,fun p hp=>?_,hok,I.len⟩
 ·exact keep b o (neL b o e) hb (neC b o e hx) (I.base.keep b o e n hb hx) (I.base.free b o e n hx)
 ·obtain⟨sl,e1⟩:=I.base.slot b o e n hb hx;obtain⟨sl',e2⟩:=slot b _ (neL b o e) hb (neC b o e hx) e1 (I.base.free b o e n hx);exact⟨sl',e2⟩
 ·obtain⟨o',e1⟩:=I.base.there b o e hx;exact free b o' (neC b o e hx) e1 (I.base.free b o e n hx)
 ·obtain⟨o',e1⟩:=I.base.there b o e hx;exact there b o' (neC b o e hx) e1
 ·obtain⟨m1,e1⟩:=I.base.tbls b ps e;obtain⟨m2,e2⟩:=tbls b _ e1;exact⟨m1++m2,by rw [e2,Array.append_assoc]⟩
 ·obtain⟨m,hn,hl⟩:=I.loc;refine⟨m,ns m hn,fun i x v e1 e2 e3=>?_⟩;obtain⟨u,r,l⟩:=hl i x v e1 e2 e3;refine⟨u,r,?_⟩;rcases l with l|⟨k,c,e,z⟩
  ·exact .inl l
  ·exact .inr ⟨k,c,e,cellK x c e _ z⟩
 ·obtain⟨v,z⟩:=I.cell x c e;exact⟨v,cellK x c e v z⟩
 ·obtain⟨m,⟨o,_,_,ho,_⟩,_⟩:=I.loc;exact free _ o (fun z=>(hch _ z).2.1 rfl) ho I.free
 ·obtain⟨v,o,ho,hd⟩:=I.cell x c e;exact free c o (fun z=>(hch c z).2.2.1 x c e rfl) ho (I.freeC x c e)
 ·obtain⟨e,n,ne,nf,d⟩:=I.pin p hp;have nch:p.1∉ch:=fun z=>(hch p.1 z).2.2.2 p hp rfl
  exact⟨keep p.1 p.2 ne nf nch e n,free p.1 p.2 nch e n,ne,nf,d⟩
theorem Inv.un{t':Nat}(I:Inv X pins σ H s)(u:Un X.fs [] H H' s.heap h')(hok:HOk X.prog X.w H' h'):Inv X pins σ H' {s with heap:=h',toks:=t'}:=by
 obtain⟨m,⟨o,es,ep,ho,r⟩,_⟩:=id I.loc;obtain⟨sl,hL⟩:=u.any ho I.free (by simp);exact I.step (g':=s.gens) (d':=s.drawn) (ch:=[]) (fun _ z=>nomatch z) (fun b o _ hb _ e n=>u.keep b o e n hb (by simp)) (fun b o _ hb _ e n=>u.slot b o e n hb (by simp)) (fun b o _ e n=>u.free b o e n (by simp)) (fun b o _ e=>u.there b o e (by simp)) u.tups u.frzs u.tbls (fun m' hm=>by
  obtain⟨o',es',ep',ho',r'⟩:=hm;rw [ho]at ho';cases ho';exact⟨_,es',ep',hL,r'⟩) hok I.bare
theorem Inv.call{g':Array GenState}{t':Nat}{d':Drawn}{ch:List Addr}(I:Inv X pins σ H s)(u:Un (frs X.stack) ch H H' s.heap h')(hok:HOk X.prog X.w H' h')(hg:AllBare g')
  (hch:∀b∈ch,(b∈X.ex∨X.s₀.heap.objs.size≤b)∧b≠X.env.locals∧(∀x c,X.env.cells.lookup x=some c→c≠b)∧∀p∈X.pn++pins,p.1≠b) :
  Inv X pins σ H' {s with heap:=h',gens:=g',drawn:=d',toks:=t'}:=by
 obtain⟨m,⟨o,es,ep,ho,r⟩,_⟩:=id I.loc;obtain⟨sl,hL⟩:=u.any ho I.free fun z=>(hch _ z).2.1 rfl
 exact I.step (ch:=ch) hch (fun b o hL hb hc e n=>u.keep b o e n (fun z=>(List.mem_cons.mp (I.stkSub b z)).elim hL hb) hc) (fun b o _ _ hc e n=>u.any e n hc) (fun b o hc e n=>u.free b o e n hc) (fun b o hc e=>u.there b o e hc) u.tups u.frzs u.tbls (fun m' hm=>by
  obtain⟨o',es',ep',ho',r'⟩:=hm;rw [ho]at ho';cases ho';exact⟨_,es',ep',hL,r'⟩) hok hg
theorem Inv.turned{t':Nat}{it:Addr}(I:Inv X pins σ H s)(k:∀b o,b≠it→s.heap.get? b=some o→h'.get? b=some o)(hn:H it=none)(hL:it≠X.env.locals)
  (h1:it∈X.ex∨X.s₀.heap.objs.size≤it) (h2:∀x c,X.env.cells.lookup x=some c→c≠it) (h3:∀p∈X.pn++pins,p.1≠it):Inv X pins σ H {s with heap:=h',toks:=t'}:=by
 have nit:∀b u,H b=some u→b≠it:=fun b u e z=>by rw [z,hn]at e;cases e
 refine I.step (g':=s.gens) (d':=s.drawn) (ch:=[it]) (fun b hb=>?_) (fun b o _ _ hc e _=>k b o (fun z=>hc (by simp [z])) e) (fun b o _ _ hc e _=>⟨o.slots,k b o (fun z=>hc (by simp [z])) e⟩) (fun _ _ _ _ n=>n)
  (fun b o hc e=>⟨o,k b o (fun z=>hc (by simp [z])) e⟩) (fun _ _ e=>e) (fun _ _ _ e=>e) (fun b ps e=>⟨#[],by rw [e];simp⟩) (fun m hm=>?_) (fun b u e=>?_) I.bare
 ·have e:b=it:=by simpa using hb
  subst e;exact⟨h1,hL,h2,h3⟩
 ·obtain⟨o,es,ep,ho,r⟩:=hm;exact⟨o,es,ep,k _ o (Ne.symm hL) ho,r⟩
 ·refine(I.hok b u e).stay (fun c v hc q=>k c v ?_ q) (fun _ q=>q) fun _ _ q=>q
  rcases hc with z|z
  ·rw [z];exact nit b u e
  ·exact nit c _ z
theorem Inv.tok(I:Inv X pins σ H s)(t:Nat):Inv X pins σ H {s with toks:=t}:=I.un (h':=s.heap) (t':=t) Un.refl I.hok
theorem Inv.kept{t':Nat}(I:Inv X pins σ H s)(k:∀b u,s.heap.get? b=some u→h'.get? b=some u):Inv X pins σ H {s with heap:=h',toks:=t'}:=I.un (Un.kept k) (I.hok.kept k)
theorem Inv.laid{a:Addr}{o:HO}{t':Nat}(I:Inv X pins σ H s)(k:∀b u,s.heap.get? b=some u→h'.get? b=some u)(hp:s.heap.objs.size≤a)(new:zM X.prog X.w (upd H a o) h' a o) :
  Inv X pins σ (upd H a o) {s with heap:=h',toks:=t'}:=I.un (Un.laid k hp (I.hok.fresh hp)) (I.hok.laid k hp new)
theorem Inv.write{x e:Addr}{o:HO}{t':Nat}(I:Inv X pins σ H s)(mu:Mut (H x))(he:e=x∨H e=some (.own x))(k:∀b u,b≠e→s.heap.get? b=some u→h'.get? b=some u)(heo:∃u,h'.get? e=some u)
  (new:zM X.prog X.w (upd H x o) h' x o):Inv X pins σ (upd H x o) {s with heap:=h',toks:=t'}:=I.un (Un.write mu he k heo) (I.hok.write mu he k heo new)
theorem Inv.pins_of{pins':List (Addr×Obj)}(I:Inv X pins σ H s)(h:∀p∈pins',s.heap.get? p.1=some p.2∧H p.1=none∧p.1≠X.env.locals∧p.1∉X.fs∧∀v,p.2.data≠.cell v):Inv X pins' σ H s:=
 ⟨I.ok,I.os,I.bare,I.base,I.loc,I.cell,I.free,I.freeC,fun p hp=>(List.mem_append.mp hp).elim (fun z=>I.pin p (List.mem_append_left _ z)) (h p),I.hok,I.len⟩
theorem qhv{N:List Str}(hN:N.Nodup){i j:Nat}{x:Str}(a:N[i]? = some x)(b:N[j]? = some x):i=j:=by
 obtain⟨h1,e1⟩:=List.getElem?_eq_some_iff.mp a;obtain⟨h2,e2⟩:=List.getElem?_eq_some_iff.mp b;exact(List.getElem_inj hN).mp (e1.trans e2.symm)
theorem qgD{M:Model}{A:Around}{E:Value→Shared→Prop}{i:Nat}{x:Str}{v:V}{u:Value}{Q:Unit→Shared→Prop}(I:Inv X pins σ H s)(hN:X.N.Nodup)(hi:X.N[i]? = some x)(hx:Loc X.env.scope x)(r:RelV v u)
  (h:∀s',Inv X pins (σ.set i (some v)) H s'→(∃a,Heap.SameBut a s.heap s'.heap∧(a=X.env.locals∨X.env.cells.lookup x=some a))→Q () s') (hf:X.fn x=true∨X.env.scope.names.lookup x=some .local:=by first|exact .inl rfl|exact .inr rfl|assumption):wpAny M A (storeName X.env x u) Q E s:=by
 obtain⟨m,hn,hl⟩:=id I.loc;have hcls:(X.env.scope.kind==.class||(X.env.scope.kind==.module&&X.env.locals != X.env.globals))=false:=by rw [I.ok.kind];rfl
 have hiσ:i<σ.length:=by rw [I.len];exact(List.getElem?_eq_some_iff.mp hi).1
 have cne:=I.cne;have tracked:∀{a:Addr}{h':Heap},(∃o,s.heap.get? a=some o∧H a=none)→Heap.SameBut a s.heap h'→HOk X.prog X.w H h':=fun {a h'} ha hs b ob e=>by
  obtain⟨_,_,hfree⟩:=ha;refine(I.hok b ob e).stay (fun c w' hc q=>(hs.2 c ?_).trans q) (fun _ q=>q) fun _ _ q=>q
  rintro rfl;rcases hc with rfl|hc
  ·rw [hfree]at e;cases e
  ·rw [hfree]at hc;cases hc
 rcases hx with hk|hk
 ·refine wpAny_storeName_local hk hn (fun h' hn' hs=>?_) hcls;obtain⟨oL,_,_,hoL,_⟩:=id hn;refine h _ ⟨I.ok,I.os,I.bare,⟨fun b o e n hb hx=>?_,fun b o e n hb hx=>?_,I.base.free,fun b o e hx=>?_,I.base.tups,I.base.frzs,I.base.tbls⟩,⟨_,hn',fun j y v' e1 e2 e3=>?_⟩,fun y c e=>?_,I.free,I.freeC,fun p hp=>?_,tracked ⟨oL,hoL,I.free⟩ hs,by simpa using I.len⟩ ⟨_,hs,.inl rfl⟩
  ·exact(hs.2 b (Nat.ne_of_lt (Nat.lt_of_lt_of_le (Heap.lt_size e) I.ok.above))).trans (I.base.keep b o e n hb hx)
  ·obtain⟨sl,e1⟩:=I.base.slot b o e n hb hx;exact⟨sl,(hs.2 b (Nat.ne_of_lt (Nat.lt_of_lt_of_le (Heap.lt_size e) I.ok.above))).trans e1⟩
  ·obtain⟨o',e1⟩:=I.base.there b o e hx;exact⟨o',(hs.2 b (Nat.ne_of_lt (Nat.lt_of_lt_of_le (Heap.lt_size e) I.ok.above))).trans e1⟩
  ·by_cases hj:j=i
   ·subst hj;rw [hi]at e1;cases e1;rw [List.getElem?_set_self hiσ]at e2;cases e2;exact⟨u,r,.inl ⟨hk,by simp⟩⟩
   ·rw [List.getElem?_set_ne (Ne.symm hj)]at e2;obtain⟨u',r',q⟩:=hl j y v' e1 e2 e3;refine⟨u',r',?_⟩;rcases q with ⟨k,e⟩|⟨k,c,e,z⟩
    ·refine .inl ⟨k,?_⟩;have:y≠x:=fun e=>hj (qhv hN e1 (e▸hi))
     simp [this,e]
    ·exact .inr ⟨k,c,e,z.sameBut hs (cne y c e)⟩
  ·obtain⟨w',z⟩:=I.cell y c e;exact⟨w',z.sameBut hs (cne y c e)⟩
  ·obtain⟨e,n,ne,nf,d⟩:=I.pin p hp;exact⟨(hs.2 p.1 ne).trans e,n,ne,nf,d⟩
 ·have hfn:X.fn x=true:=by
   rcases hf with z|z
   ·exact z
   ·rw [z]at hk;cases hk
  obtain⟨c,hc⟩:=I.ok.has x (.inl hk);obtain⟨w',z⟩:=I.cell x c hc;refine wpAny_storeName_cell I.ok.kind hk hc z (fun h' hc' hs=>?_);obtain⟨oc,hoc,hocd⟩:=id z;refine h {s with heap:=h'} ⟨I.ok,I.os,I.bare,⟨fun b o e n hb hx=>?_,fun b o e n hb hx=>?_,I.base.free,fun b o e hx=>?_,I.base.tups,I.base.frzs,I.base.tbls⟩,⟨m,hn.sameBut hs (Ne.symm (cne x c hc)),fun j y v' e1 e2 e3=>?_⟩,fun y c' e=>?_,I.free,I.freeC,fun p hp=>?_,tracked ⟨oc,hoc,I.freeC x c hc⟩ hs,by simpa using I.len⟩ ⟨c,hs,.inr hc⟩
  ·exact(hs.2 b (Nat.ne_of_lt (Nat.lt_of_lt_of_le (Heap.lt_size e) (I.ok.cab x c hfn hc)))).trans (I.base.keep b o e n hb hx)
  ·obtain⟨sl,e1⟩:=I.base.slot b o e n hb hx;exact⟨sl,(hs.2 b (Nat.ne_of_lt (Nat.lt_of_lt_of_le (Heap.lt_size e) (I.ok.cab x c hfn hc)))).trans e1⟩
  ·obtain⟨o',e1⟩:=I.base.there b o e hx;exact⟨o',(hs.2 b (Nat.ne_of_lt (Nat.lt_of_lt_of_le (Heap.lt_size e) (I.ok.cab x c hfn hc)))).trans e1⟩
  ·by_cases hj:j=i
   ·subst hj;rw [hi]at e1;cases e1;rw [List.getElem?_set_self hiσ]at e2;cases e2;exact⟨u,r,.inr ⟨.inl hk,c,hc,hc'⟩⟩
   ·rw [List.getElem?_set_ne (Ne.symm hj)]at e2;obtain⟨u',r',q⟩:=hl j y v' e1 e2 e3;refine⟨u',r',?_⟩;rcases q with q|⟨k,c',e,z'⟩
    ·exact .inl q
    ·refine .inr ⟨k,c',e,z'.sameBut hs ?_⟩;rintro rfl;exact hj (qhv hN e1 (I.ok.inj _ _ _ e hc▸hi))
  ·by_cases hcc:c'=c
   ·subst hcc;exact⟨_,hc'⟩
   ·obtain⟨w2,z2⟩:=I.cell y c' e;exact⟨w2,z2.sameBut hs hcc⟩
  ·obtain⟨e,n,ne,nf,d⟩:=I.pin p hp;refine⟨(hs.2 p.1 ?_).trans e,n,ne,nf,d⟩;intro q;rw [q,hoc]at e;have q':oc=p.2:=Option.some.inj e;exact d w' (by rw [←q'];exact hocd)
theorem qch{M:Model}{A:Around}{E:Value→Shared→Prop}{i:Nat}{x:Str}{v:V}{u:Value}{Q:Unit→Shared→Prop}(I:Inv X pins σ H s)(hN:X.N.Nodup)(hi:X.N[i]? = some x)(hx:Loc X.env.scope x)(r:RelV v u)
  (h:∀s',Inv X pins (σ.set i (some v)) H s'→Q () s') (hf:X.fn x=true∨X.env.scope.names.lookup x=some .local:=by first|exact .inl rfl|exact .inr rfl|assumption):wpAny M A (storeName X.env x u) Q E s:=
 qgD I hN hi hx r (fun s' I' _=>h s' I') hf
theorem Inv.call'{s':Shared}{ch:List Addr}(I:Inv X pins σ H s)(ho:s'.os=s.os)(u:Un (frs X.stack) ch H H' s.heap s'.heap)(hok:HOk X.prog X.w H' s'.heap)(hg:AllBare s'.gens)
  (hch:∀b∈ch,(b∈X.ex∨X.s₀.heap.objs.size≤b)∧b≠X.env.locals∧(∀x c,X.env.cells.lookup x=some c→c≠b)∧∀p∈X.pn++pins,p.1≠b):Inv X pins σ H' s':=by
 obtain⟨h',g',d',t',o'⟩:=s';have e:o'=s.os:=ho;subst e;exact I.call (g':=g') (t':=t') (d':=d') u hok hg hch
end
abbrev XK:=Value→Option Addr→Hp→Prop
abbrev St:=List (Option V)
abbrev VK:=V→Hp→Prop
abbrev TE:=St→Hp→VK→Prop
abbrev TT:=St→Hp→(Bool→Hp→Prop)→Prop
abbrev TA:=St→Hp→(List V→Hp→Prop)→Prop
structure Ends where
 nx:St→Hp→Prop
 rt:VK
 bk:St→Hp→Prop:=fun _ _=>False
 ct:St→Hp→Prop:=fun _ _=>False
abbrev TS:=Ends→St→Hp→Prop
noncomputable def EP(X:Cx)(pins:List (Addr×Obj))(σ:St)(Q:VK)(u:Value)(s':Shared):Prop:=∃v H',Inv X pins σ H' s'∧RelV v u∧Q v H'
noncomputable def TP(X:Cx)(pins:List (Addr×Obj))(σ:St)(Q:Bool→Hp→Prop)(b:Bool)(s':Shared):Prop:=∃H',Inv X pins σ H' s'∧Q b H'
noncomputable def AP(X:Cx)(pins:List (Addr×Obj))(σ:St)(Q:List V→Hp→Prop)(us:List Value)(s':Shared):Prop:=∃vs H',Inv X pins σ H' s'∧Vals vs us∧Q vs H'
noncomputable def SP(X:Cx)(pins:List (Addr×Obj))(D:Ends)(f:Flow)(s':Shared):Prop:=
 match f with
 | .next=>∃σ' H',Inv X pins σ' H' s'∧D.nx σ' H'
 | .brk=>∃σ' H',Inv X pins σ' H' s'∧D.bk σ' H'
 | .cont=>∃σ' H',Inv X pins σ' H' s'∧D.ct σ' H'
 | .ret u=>∃v σ' H',Inv X pins σ' H' s'∧RelV v u∧D.rt v H'
noncomputable def PE(X:Cx)(e:Expr)(t:TE):Prop:=
 ∀(pins:List (Addr×Obj)) (s:Shared) (σ:St) (H:Hp) (Q:VK),Inv X pins σ H s→t σ H Q→wpAny (model X.prog X.w) X.A (eval e X.env) (EP X pins σ Q) X.xe s
noncomputable def PT(X:Cx)(e:Expr)(t:TT):Prop:=
 ∀(pins:List (Addr×Obj)) (s:Shared) (σ:St) (H:Hp) (Q:Bool→Hp→Prop),Inv X pins σ H s→t σ H Q→wpAny (model X.prog X.w) X.A (isTrue e X.env (eval e X.env)) (TP X pins σ Q) X.xe s
noncomputable def PW(X:Cx)(e:Expr)(t:TT):Prop:=
 ∀(whole:Sem Value) (pins:List (Addr×Obj)) (s:Shared) (σ:St) (H:Hp) (Q:Bool→Hp→Prop),Inv X pins σ H s→t σ H Q→wpAny (model X.prog X.w) X.A (isTrue e X.env whole) (TP X pins σ Q) X.xe s
theorem PW.pt{X:Cx}{e:Expr}{t:TT}(h:PW X e t):PT X e t:=h _
noncomputable def PA(X:Cx)(es:List Expr)(t:TA):Prop:=
 ∀(pos:Pos) (pins:List (Addr×Obj)) (s:Shared) (σ:St) (H:Hp) (Q:List V→Hp→Prop),Inv X pins σ H s→t σ H Q→wpAny (model X.prog X.w) X.A (spliced (backTo pos (starEach es X.env))) (AP X pins σ Q) X.xe s
noncomputable def PS(X:Cx)(st:Stmt)(t:TS):Prop:=
 ∀(pins:List (Addr×Obj)) (s:Shared) (σ:St) (H:Hp) (D:Ends),Inv X pins σ H s→t D σ H→wpAny (model X.prog X.w) X.A (exec st X.env) (SP X pins D) X.xe s
noncomputable def PSs(X:Cx)(st:List Stmt)(t:TS):Prop:=
 ∀(pins:List (Addr×Obj)) (s:Shared) (σ:St) (H:Hp) (D:Ends),Inv X pins σ H s→t D σ H→wpAny (model X.prog X.w) X.A (execs st X.env) (SP X pins D) X.xe s
theorem thn{α:Type}{t:Sem α}{Q Q':α→Shared→Prop}{M:Model}{A:Around}{E:Value→Shared→Prop}{s:Shared}(h:wpAny M A t Q E s)(hQ:∀a s,Q a s→Q' a s):wpAny M A t Q' E s:=wpAny_mono h hQ fun _ _ x=>x
section
variable{X:Cx}
theorem bin{a b:Expr}{ta tb:TE}(ha:PE X a ta)(hb:PE X b tb){pins:List (Addr×Obj)}{s:Shared}{σ:St}{H:Hp}{R:V→V→Hp→Prop}(I:Inv X pins σ H s)(h:ta σ H fun x H1=>tb σ H1 fun y H2=>R x y H2)
  {α:Type}{Q:α→Shared→Prop}{f:Value→Value→Sem α}
  (hf:∀v u s2 x y H2,Inv X pins σ H2 s2→RelV x v→RelV y u→R x y H2→wpAny (model X.prog X.w) X.A (f v u) Q X.xe s2) :
  wpAny (model X.prog X.w) X.A (eval a X.env) (fun v s₁=>wpAny (model X.prog X.w) X.A (eval b X.env) (fun u s₂=>wpAny (model X.prog X.w) X.A (f v u) Q X.xe s₂) X.xe s₁) X.xe s:=by
 refine thn (ha pins s σ H _ I h) fun v s1 ⟨x,H1,I1,r1,q1⟩=>?_
 refine thn (hb pins s1 σ H1 _ I1 q1) fun u s2 ⟨y,H2,I2,r2,q2⟩=>?_
 exact hf v u s2 x y H2 I2 r1 r2 q2
noncomputable def qhj(i:Nat):TE:=fun σ H Q=>∃v,σ[i]? = some (some v)∧Q v H
noncomputable def tC(v:V):TE:=fun _ H Q=>Q v H
theorem qfb{i:Nat}{x:Str}{pos:Pos}(hN:X.N[i]? = some x)(hv:Vis X.env.scope x)(hd:(x==("__debug__" : Str))=false:=by decide)(hcd:(x==("__classdict__" : Str))=false:=by decide):PE X (.Name x pos) (qhj i):=by
 intro pins s σ H Q I h;obtain⟨v,e,h⟩:=h;obtain⟨m,hn,hl⟩:=I.loc;obtain⟨u,r,l⟩:=hl i x v hN e hv;have fin:EP X pins σ Q u s:=⟨v,H,I,r,h⟩
 rcases l with ⟨hk,hm⟩|⟨hk,c,hc,hcell⟩
 ·exact wpAny_Name (wpAny_loadName_local I.ok.kind hk hn hm fin) hd
 ·rcases hk with hk|hk
  ·exact wpAny_Name (wpAny_loadName_cell I.ok.kind hk hc hcell fin) hd
  ·exact wpAny_Name (wpAny_loadName_free I.ok.kind hk hc hcell fin hcd) hd
theorem qkV{i j pos}:PE X (.Constant (.int i) j pos) (tC (.int i)):=fun _ _ _ H _ I h=>wpAny_Constant_int ⟨.int i,H,I.tok _,⟨_,rfl⟩,h⟩
theorem qsT{b j pos}:PE X (.Constant (.bool b) j pos) (tC (.bl b)):=fun _ _ _ H _ I h=>Constant_bool ⟨.bl b,H,I,rfl,h⟩
theorem qrU{j pos}:PE X (.Constant .none j pos) (tC .non):=fun _ _ _ H _ I h=>Constant_none ⟨.non,H,I,rfl,h⟩
theorem qfj{x j pos}:PE X (.Constant (.str x) j pos) (tC (.str x)):=fun _ _ _ H _ I h=>Calls.Constant_str ⟨.str x,H,I.tok _,⟨_,rfl⟩,h⟩
noncomputable def Gl(X:Cx)(x:Str):Prop:=X.env.kindOf x=some .globalImplicit
theorem qfZ{E:Value→Shared→Prop}{pins:List (Addr×Obj)}{s:Shared}{σ:St}{H:Hp}{x:Str}{u:Value}{pos:Pos}{Q:Value→Shared→Prop}(I:Inv X pins σ H s)(hg:Gl X x)(hm:X.mg x=some u)(h:Q u s)
  (hd:(x==("__debug__" : Str))=false:=by decide):wpAny (model X.prog X.w) X.A (eval (.Name x pos) X.env) Q E s:=
 Calls.Name_function_global I.ok.kind hg (Calls.loadGlobal_global (by rw [I.ok.glob];exact I.mod.glob.keeps I.bk) hm h) hd
theorem qcg{E:Value→Shared→Prop}{pins:List (Addr×Obj)}{s:Shared}{σ:St}{H:Hp}{x:Str}{u:Value}{pos:Pos}{Q:Value→Shared→Prop}(I:Inv X pins σ H s)(hg:Gl X x)(hm:X.mg x=none)(hv:bootBuiltins x=some u)(h:Q u s)
  (hn:x≠"__name__":=by decide) (hd:(x==("__debug__" : Str))=false:=by decide):wpAny (model X.prog X.w) X.A (eval (.Name x pos) X.env) Q E s:=by
 obtain⟨mb,h1,h2⟩:=I.mod.blt;exact Calls.Name_function_global I.ok.kind hg (Calls.loadGlobal_builtin (by rw [I.ok.glob];exact I.mod.glob.keeps I.bk) hm (by rw [I.ok.blt];exact h1.keeps I.bk) ((h2 x hn).trans hv) h) hd
theorem qek{x:Str}{v:V}{u:Value}{pos:Pos}(hg:Gl X x)(hm:X.mg x=some u)(r:RelV v u)(hd:(x==("__debug__" : Str))=false:=by decide):PE X (.Name x pos) (tC v):=
 fun _ _ _ H _ I h=>qfZ I hg hm ⟨v,H,I,r,h⟩ hd
theorem qoP{x:Str}{v:V}{u:Value}{pos:Pos}(hg:Gl X x)(hm:X.mg x=none)(hv:bootBuiltins x=some u)(r:RelV v u)(hn:x≠"__name__":=by decide)(hd:(x==("__debug__" : Str))=false:=by decide):PE X (.Name x pos) (tC v):=
 fun _ _ _ H _ I h=>qcg I hg hm hv ⟨v,H,I,r,h⟩ hn hd
variable{a b:Expr}{ta tb:TE}{pos:Pos}
variable{tA tB':TT}{rest:List Expr}
noncomputable def quk(t u:TT):TT:=fun σ H Q=>t σ H fun c H1=>if c=true then u σ H1 Q else Q false H1
noncomputable def tOr(t u:TT):TT:=fun σ H Q=>t σ H fun c H1=>if c=true then Q true H1 else u σ H1 Q
noncomputable def qtR(t:TT):TT:=fun σ H Q=>t σ H fun c H1=>Q (!c) H1
theorem qoX(ha:PT X a tA):PW X (.BoolOp .And [a] pos) tA:=by
 intro wh pins s σ H Q I h;refine isTrue_and (thn (ha pins s σ H Q I h) fun c s1 e=>?_);cases c with
 |true=>exact isTrue_and_nil e
 |false=>exact e
theorem qsh(ha:PT X a tA):PW X (.BoolOp .Or [a] pos) tA:=by
 intro wh pins s σ H Q I h;refine isTrue_or (thn (ha pins s σ H Q I h) fun c s1 e=>?_);cases c with
 |false=>exact isTrue_or_nil e
 |true=>exact e
theorem qqZ(ha:PT X a tA)(hb:PW X (.BoolOp .And (b::rest) pos) tB'):PW X (.BoolOp .And (a::b::rest) pos) (quk tA tB'):=by
 intro wh pins s σ H Q I h;refine isTrue_and (thn (ha pins s σ H _ I h) fun c s1 ⟨H1,I1,q1⟩=>?_);cases c with
 |true=>exact hb wh pins s1 σ H1 Q I1 q1
 |false=>exact⟨H1,I1,q1⟩
theorem qsG(ha:PT X a tA)(hb:PW X (.BoolOp .Or (b::rest) pos) tB'):PW X (.BoolOp .Or (a::b::rest) pos) (tOr tA tB'):=by
 intro wh pins s σ H Q I h;refine isTrue_or (thn (ha pins s σ H _ I h) fun c s1 ⟨H1,I1,q1⟩=>?_);cases c with
 |true=>exact⟨H1,I1,q1⟩
 |false=>exact hb wh pins s1 σ H1 Q I1 q1
theorem qrv(ha:PT X a tA):PT X (.UnaryOp .Not a pos) (qtR tA):=by
 intro pins s σ H Q I h;exact isTrue_not (ha pins s σ H (fun c H1=>Q (!c) H1) I h)
noncomputable def qtq(ta tb:TE):TE:=fun σ H Q=>ta σ H fun x H1=>∃c,x=.bl c∧if c=true then tb σ H1 Q else Q (.bl false) H1
noncomputable def quj(ta tb:TE):TE:=fun σ H Q=>ta σ H fun x H1=>∃c,x=.bl c∧if c=true then Q (.bl true) H1 else tb σ H1 Q
noncomputable def qsA(ta:TE):TE:=fun σ H Q=>ta σ H fun x H1=>∃c,x=.bl c∧Q (.bl (!c)) H1
theorem qqw{op}{t:TE}(h:PE X a t):PE X (.BoolOp op [a] pos) t:=fun pins s σ H Q I hw=>BoolOp_one (h pins s σ H Q I hw)
theorem qqS(ha:PE X a ta)(hb:PE X (.BoolOp .And (b::rest) pos) tb):PE X (.BoolOp .And (a::b::rest) pos) (qtq ta tb):=by
 intro pins s σ H Q I h;refine BoolOp_and (thn (ha pins s σ H _ I h) fun v s1 ⟨x,H1,I1,r1,q1⟩=>?_);obtain⟨c,rfl,q1⟩:=q1;cases r1;refine wpAny_truthy_bool ?_;cases c with
 |true=>exact hb pins s1 σ H1 Q I1 q1
 |false=>exact⟨.bl false,H1,I1,rfl,q1⟩
theorem qtr(ha:PE X a ta)(hb:PE X (.BoolOp .Or (b::rest) pos) tb):PE X (.BoolOp .Or (a::b::rest) pos) (quj ta tb):=by
 intro pins s σ H Q I h;refine BoolOp_or (thn (ha pins s σ H _ I h) fun v s1 ⟨x,H1,I1,r1,q1⟩=>?_);obtain⟨c,rfl,q1⟩:=q1;cases r1;refine wpAny_truthy_bool ?_;cases c with
 |false=>exact hb pins s1 σ H1 Q I1 q1
 |true=>exact⟨.bl true,H1,I1,rfl,q1⟩
theorem qqo(ha:PE X a ta):PE X (.UnaryOp .Not a pos) (qsA ta):=by
 intro pins s σ H Q I h;refine UnaryOp_ (thn (ha pins s σ H _ I h) fun v s1 ⟨x,H1,I1,r1,q1⟩=>?_);obtain⟨c,rfl,q1⟩:=q1;cases r1;exact not_of (wpAny_truthy_bool ⟨.bl (!c),H1,I1,rfl,q1⟩)
noncomputable def tIf(t:TT)(ta tb:TE):TE:=fun σ H Q=>t σ H fun c H1=>if c=true then ta σ H1 Q else tb σ H1 Q
theorem qnn{c:Expr}(hc:PT X c tA)(ha:PE X a ta)(hb:PE X b tb):PE X (.IfExp c a b pos) (tIf tA ta tb):=by
 intro pins s σ H Q I h;refine wpAny_IfExp (thn (hc pins s σ H _ I h) fun d s1 ⟨H1,I1,q1⟩=>?_);cases d with
 |true=>exact ha pins s1 σ H1 Q I1 q1
 |false=>exact hb pins s1 σ H1 Q I1 q1
end
noncomputable def SqL(K:PySem.W.Frag)(H:Hp)(a:Addr)(xs:List V):Prop:=
 Rd H a (.lst xs) ∨
  ∃(o:Obj) (its:Array Value) (n:Nat),K.lookup a=some o∧o.cls=.type "list"∧o.dict=none∧o.data=.seq its n∧its.size≤sizeLine∧Vals xs its.toList
noncomputable def SqT(K:PySem.W.Frag)(H:Hp)(a:Addr)(xs:List V):Prop:=
 Rd H a (.tup xs) ∨
  ∃(o:Obj) (its:Array Value) (n:Nat),K.lookup a=some o∧o.cls=.type "tuple"∧o.data=.seq its n∧its.size≤sizeLine∧Vals xs its.toList
noncomputable def qtP:Value→Option V
 | .none=>some .non
 | .bool b=>some (.bl b)
 | .int i _=>some (.int i)
 | .str x _=>some (.str x)
 | .bytes b _=>some (.byt b)
 | .float b _=>some (.flt b)
 | .ref a=>some (.ref a)
 | .type n=>some (.ty n)
 |_=>none
theorem RelV.abs{x:V}{u:Value}(r:RelV x u):qtP u=some x:=by
 cases x with
 |non=>cases r;rfl
 |bl _=>cases r;rfl
 |int _=>obtain⟨t,rfl⟩:=r;rfl
 |str _=>obtain⟨t,rfl⟩:=r;rfl
 |byt _=>obtain⟨t,rfl⟩:=r;rfl
 |flt _=>obtain⟨t,rfl⟩:=r;rfl
 |ref _=>cases r;rfl
 |ty _=>cases r;rfl
theorem RelV.inj{x y:V}{u:Value}(r:RelV x u)(q:RelV y u):x=y:=Option.some.inj (r.abs.symm.trans q.abs)
theorem Vals.inj{xs ys:List V}{us:List Value}(h:Vals xs us)(h':Vals ys us):xs=ys:=by
 induction h generalizing ys with
 |nil=>cases h';rfl
 |cons r t ih=>cases h' with
  |cons r' t'=>rw [r.inj r',ih t']
section
variable{X:Cx}{pins:List (Addr×Obj)}{σ:St}{H:Hp}{s:Shared}{a:Addr}{xs ys:List V}
theorem SqL.of{K:PySem.W.Frag}(h:H a=some (.lst xs)):SqL K H a xs:=.inl (.inl h)
theorem SqT.of{K:PySem.W.Frag}(h:H a=some (.tup xs)):SqT K H a xs:=.inl (.inl h)
theorem Inv.list(I:Inv X pins σ H s)(h:SqL X.K H a xs):∃its:List Value,Vals xs its∧PlainL s.heap a its.toArray∧xs.length≤sizeLine:=by
 rcases h with h|⟨o,its,n,hk,hc,hd,hs,hz,r⟩
 ·obtain⟨z,its,n,r,e⟩:=h.ok I.hok;exact⟨its,r,⟨_,n,e,rfl,rfl,rfl⟩,z⟩
 ·refine⟨its.toList,r,⟨o,n,I.kIn a o hk,hc,hd,by simpa using hs⟩,?_⟩;have e:=r.length;simp only [Array.length_toList]at e;lia
theorem Inv.tuple(I:Inv X pins σ H s)(h:SqT X.K H a xs):∃its:List Value,Vals xs its∧IsTup s.heap a its.toArray∧xs.length≤sizeLine:=by
 rcases h with h|⟨o,its,n,hk,hc,hs,hz,r⟩
 ·obtain⟨z,its,r,p⟩:=h.ok I.hok;exact⟨its,r,p,z⟩
 ·refine⟨its.toList,r,⟨o,I.kIn a o hk,hc,n,by simpa using hs⟩,?_⟩;have e:=r.length;simp only [Array.length_toList]at e;lia
theorem Inv.list_inj(I:Inv X pins σ H s)(h:SqL X.K H a xs)(h':SqL X.K H a ys):xs=ys:=by
 obtain⟨its,r,⟨o,n,e,_,_,d⟩,_⟩:=I.list h;obtain⟨its',r',⟨o',n',e',_,_,d'⟩,_⟩:=I.list h';rw [e]at e';cases e';rw [d]at d';injection d' with d1 _
 have:its=its':=by simpa using congrArg Array.toList d1
 subst this;exact r.inj r'
theorem Inv.tuple_inj(I:Inv X pins σ H s)(h:SqT X.K H a xs)(h':SqT X.K H a ys):xs=ys:=by
 obtain⟨its,r,⟨o,e,_,n,d⟩,_⟩:=I.tuple h;obtain⟨its',r',⟨o',e',_,n',d'⟩,_⟩:=I.tuple h';rw [e]at e';cases e';rw [d]at d';injection d' with d1 _
 have:its=its':=by simpa using congrArg Array.toList d1
 subst this;exact r.inj r'
end
abbrev Cx.wish(X:Cx)(E:Value→Shared→Prop):Cx:={X with xe:=E}
abbrev Cx.nox(X:Cx):Cx:=X.wish fun _ _=>False
theorem Cx.Ok.wish{X:Cx}(ok:X.Ok)(E:Value→Shared→Prop):(X.wish E).Ok:=
 ⟨ok.mod,ok.kind,ok.glob,ok.blt,ok.above,ok.inj,ok.has,ok.cab,ok.hd,ok.frames,ok.stk,ok.exf,ok.bs,ok.bsz,ok.noex,ok.exfs,ok.funs,ok.frf⟩
theorem Cx.Ok.unwish{X:Cx}{E:Value→Shared→Prop}(ok:(X.wish E).Ok):X.Ok:=
 ⟨ok.mod,ok.kind,ok.glob,ok.blt,ok.above,ok.inj,ok.has,ok.cab,ok.hd,ok.frames,ok.stk,ok.exf,ok.bs,ok.bsz,ok.noex,ok.exfs,ok.funs,ok.frf⟩
section
variable{X:Cx}{pins:List (Addr×Obj)}{σ:St}{H:Hp}{s:Shared}{E:Value→Shared→Prop}
theorem Inv.wish(I:Inv X pins σ H s)(E:Value→Shared→Prop):Inv (X.wish E) pins σ H s:=⟨I.ok.wish E,I.os,I.bare,I.base,I.loc,I.cell,I.free,I.freeC,I.pin,I.hok,I.len⟩
theorem Inv.unwish(I:Inv (X.wish E) pins σ H s):Inv X pins σ H s:=⟨I.ok.unwish,I.os,I.bare,I.base,I.loc,I.cell,I.free,I.freeC,I.pin,I.hok,I.len⟩
theorem SP.unwish{D:Ends}{f:Flow}{s':Shared}(h:SP (X.wish E) pins D f s'):SP X pins D f s':=by
 cases f with
 |next=>obtain⟨σ',H',I,q⟩:=h;exact⟨σ',H',I.unwish,q⟩
 |brk=>obtain⟨σ',H',I,q⟩:=h;exact⟨σ',H',I.unwish,q⟩
 |cont=>obtain⟨σ',H',I,q⟩:=h;exact⟨σ',H',I.unwish,q⟩
 |ret u=>obtain⟨v,σ',H',I,r,q⟩:=h;exact⟨v,σ',H',I.unwish,r,q⟩
end
section
variable{X:Cx}{st:Stmt}{rest:List Stmt}{t u:TS}{e:Expr}{te:TE}{pos:Pos}
noncomputable def qbR:TS:=fun D σ H=>D.nx σ H
noncomputable def qul(t u:TS):TS:=fun D σ H=>t {D with nx:=u D} σ H
theorem qoJ:PSs X [] qbR:=fun _ _ σ H _ I h=>wpAny_execs_nil ⟨σ,H,I,h⟩
theorem qhV(h1:PS X st t)(h2:PSs X rest u):PSs X (st::rest) (qul t u):=by
 intro pins s σ H D I h;refine wpAny_execs_cons (thn (h1 pins s σ H {D with nx:=u D} I h) fun f s1 q=>?_);cases f with
 |next=>
  obtain⟨σ',H',I',q⟩:=q;exact h2 pins s1 σ' H' D I' q
 |ret v=>exact q
 |brk=>exact q
 |cont=>exact q
noncomputable def qqk:TS:=fun D σ H=>D.bk σ H
noncomputable def qtk:TS:=fun D σ H=>D.ct σ H
theorem qpV:PS X (.Pass pos) qbR:=fun _ _ σ H _ I h=>wpAny_Pass ⟨σ,H,I,h⟩
theorem qms:PS X (.Break pos) qqk:=fun _ _ σ H _ I h=>wpAny_Break ⟨σ,H,I,h⟩
theorem qiw:PS X (.Continue pos) qtk:=fun _ _ σ H _ I h=>wpAny_Continue ⟨σ,H,I,h⟩
theorem Inv.quiet{pins:List (Addr×Obj)}{σ:St}{H:Hp}{s:Shared}(I:Inv X pins σ H s):interactive X.env=false:=by simp [interactive,I.ok.kind]
noncomputable def qtK(te:TE):TS:=fun D σ H=>te σ H fun _ H1=>D.nx σ H1
theorem qiy(he:PE X e te)(hs:swapsWith e none pos.line X.env=pure false:=by rfl):PS X (.Expr e pos) (qtK te):=by
 intro pins s σ H D I h;exact wpAny_Expr_any (thn (he pins s σ H _ I h) fun v s1 ⟨x,H1,I1,r1,q1⟩=>⟨σ,H1,I1,q1⟩) I.quiet hs
noncomputable def qub(te:TE):TS:=fun D σ H=>te σ H D.rt
theorem qlM(he:PE X e te):PS X (.Return (some e) pos) (qub te):=by
 intro pins s σ H D I h;exact wpAny_Return_some (thn (he pins s σ H _ I h) fun v s1 ⟨x,H1,I1,r1,q1⟩=>⟨x,σ,H1,I1,r1,q1⟩)
noncomputable def qtf:TS:=fun D _ H=>D.rt .non H
theorem qpB:PS X (.Return none pos) qtf:=fun _ _ σ H _ I h=>wpAny_Return_none ⟨.non,σ,H,I,rfl,h⟩
noncomputable def qdW(c:TT)(t u:TS):TS:=fun D σ H=>c σ H fun b H1=>if b=true then t D σ H1 else u D σ H1
theorem qtd{c:Expr}{a b:List Stmt}{tc:TT}(hc:PT X c tc)(ha:PSs X a t)(hb:PSs X b u):PS X (.If c a b pos) (qdW tc t u):=by
 intro pins s σ H D I h;refine wpAny_If (thn (hc pins s σ H _ I h) fun d s1 ⟨H1,I1,q1⟩=>?_);cases d with
 |true=>exact ha pins s1 σ H1 D I1 q1
 |false=>exact hb pins s1 σ H1 D I1 q1
end
abbrev TG:=V→St→Hp→(St→Hp→Prop)→Prop
abbrev TGs:=List V→St→Hp→(St→Hp→Prop)→Prop
noncomputable def PG(X:Cx)(target:Expr)(t:TG):Prop:=
 ∀(pins:List (Addr×Obj)) (s:Shared) (σ:St) (H:Hp) (v:V) (u:Value) (Q:St→Hp→Prop),Inv X pins σ H s→RelV v u→t v σ H Q →
  wpAny (model X.prog X.w) X.A (assign target X.env u) (fun _ s'=>∃σ' H',Inv X pins σ' H' s'∧Q σ' H') X.xe s
noncomputable def PGs(X:Cx)(ts:List Expr)(t:TGs):Prop:=
 ∀(pins:List (Addr×Obj)) (s:Shared) (σ:St) (H:Hp) (vs:List V) (us:List Value) (Q:St→Hp→Prop),Inv X pins σ H s→Vals vs us→t vs σ H Q →
  wpAny (model X.prog X.w) X.A (assignInOrder ((assignEach ts X.env).map (·.2)) us) (fun _ s'=>∃σ' H',Inv X pins σ' H' s'∧Q σ' H') X.xe s
abbrev qmr:=V→V→V→Hp→(Hp→Prop)→Prop
noncomputable def qqO(X:Cx)(t:qmr):Prop:=
 ∀(pins:List (Addr×Obj)) (s:Shared) (σ:St) (H:Hp) (o i v:V) (ov iv u:Value) (Q:Hp→Prop),Inv X pins σ H s→RelV o ov→RelV i iv→RelV v u→t o i v H Q →
  wpAny (model X.prog X.w) X.A (setItem ov iv u) (fun _ s'=>∃H',Inv X pins σ H' s'∧Q H') X.xe s
section
variable{X:Cx}{pos:Pos}
noncomputable def qcH(i:Nat):TG:=fun v σ H Q=>Q (σ.set i (some v)) H
theorem qpc{i:Nat}{x:Str}(hN:X.N.Nodup)(hi:X.N[i]? = some x)(hx:Loc X.env.scope x)(hf:X.fn x=true∨X.env.scope.names.lookup x=some .local:=by first|exact .inl rfl|exact .inr rfl|assumption):PG X (.Name x pos) (qcH i):=by
 intro pins s σ H v u Q I r h;exact wpAny_assign_Name (qch I hN hi hx r (fun s' I'=>⟨_,H,I',h⟩) hf)
noncomputable def qqf:TGs:=fun vs σ H Q=>vs=[]∧Q σ H
noncomputable def qoq(t:TG)(u:TGs):TGs:=fun vs σ H Q=>∃v r,vs=v::r∧t v σ H fun σ' H'=>u r σ' H' Q
theorem qoG:PGs X [] qqf:=by
 intro pins s σ H vs us Q I r h;obtain⟨e,h⟩:=h;subst e;cases r;exact assignInOrder_nil ⟨σ,H,I,h⟩
theorem qmt{e:Expr}{es:List Expr}{t:TG}{u:TGs}(h1:PG X e t)(h2:PGs X es u)
  (hs:(assignEach (e::es) X.env).map (·.2)=assign e X.env::(assignEach es X.env).map (·.2):=by rfl):PGs X (e::es) (qoq t u):=by
 intro pins s σ H vs us Q I r h;obtain⟨v,vr,e1,h⟩:=h;subst e1;cases r with
 |cons r rr=>
  rw [hs];refine assignInOrder_cons (thn (h1 pins s σ H _ _ _ I r h) fun _ s1 ⟨σ1,H1,I1,q1⟩=>?_);exact h2 pins s1 σ1 H1 _ _ Q I1 rr q1
noncomputable def qrX(K:PySem.W.Frag)(n:Nat)(t:TGs):TG:=fun v σ H Q=>∃a xs,v=.ref a∧SqT K H a xs∧xs.length=n∧t xs σ H Q
theorem qrc{es:List Expr}{k:Nat}{t:TGs}{n:Nat}(hc:X.calm=true)(h:PGs X es t)
  (hn:(assignEach es X.env).length=n:=by rfl) (hst:(assignEach es X.env).findIdx? (·.1)=none:=by rfl):PG X (.Tuple es k pos) (qrX X.K n t):=by
 intro pins s σ H v u Q I r hw;obtain⟨a,xs,e1,hq,hl,hw⟩:=hw;subst e1;cases r;obtain⟨its,rv,ht,hz⟩:=I.tuple hq;refine assign_Tuple_tuple (I.ok.hd hc) ht (by simp [hn,←hl,rv.length]) hst fun h' hx=>?_
 have I1:Inv X pins σ H {s with heap:=h'}:=I.kept (t':=s.toks) fun b o e=>hx b o (Nat.ne_of_lt (Heap.lt_size e)) e
 exact h pins _ σ H xs _ Q I1 (by simpa using rv) hw
noncomputable def qqr(to ti:TE)(t:qmr):TG:=fun v σ H Q=>to σ H fun o H1=>ti σ H1 fun i H2=>t o i v H2 fun H3=>Q σ H3
theorem qrV{o i:Expr}{to ti:TE}{t:qmr}(ho:PE X o to)(hi:PE X i ti)(hs:qqO X t)
  (ha:∀v,assign (.Subscript o i pos) X.env v=(do
   let ov ←holding [v] (eval o X.env)
   let iv ←holding [v,ov] (eval i X.env)
   standAt pos
   holding [v,ov,iv] (setItem ov iv v)
   release [v,ov,iv] []):=by intro _;rfl):PG X (.Subscript o i pos) (qqr to ti t):=by
 intro pins s σ H v u Q I r h;rw [ha];refine wpAny_bind (wpAny_holding (thn (ho pins s σ H _ I h) fun ov s1 ⟨x,H1,I1,r1,q1⟩=>?_));refine wpAny_bind (wpAny_holding (thn (hi pins s1 σ H1 _ I1 q1) fun iv s2 ⟨y,H2,I2,r2,q2⟩=>?_));refine wpAny_bind (wpAny_standAt (wpAny_bind (wpAny_holding (thn (hs pins s2 σ H2 x y v ov iv u _ I2 r1 r2 r q2) fun _ s3 ⟨H3,I3,q3⟩=>?_))));exact wpAny_release ⟨σ,H3,I3,q3⟩
noncomputable def qkt(te:TE)(g:TG):TS:=fun D σ H=>te σ H fun x H1=>g x σ H1 D.nx
theorem qlT{tg e:Expr}{te:TE}{g:TG}(he:PE X e te)(hg:PG X tg g)(hs:swapsWithSole [tg] e pos.line X.env=pure false:=by rfl)(hw:swappedStores [tg] e X.env=pure none:=by rfl)
  (h1:(assignEach [tg] X.env).map (·.2)=[assign tg X.env]:=by rfl):PS X (.Assign [tg] e pos) (qkt te g):=by
 intro pins s σ H D I h;refine wpAny_Assign_stores (thn (he pins s σ H _ I h) fun v s1 ⟨x,H1,I1,r1,q1⟩=>?_) hs hw;rw [h1];exact thn (hg pins s1 σ H1 x v _ I1 r1 q1) fun _ s2 q=>q
theorem qlz{i:Nat}{x:Str}{e:Expr}{te:TE}{pos':Pos}(hN:X.N.Nodup)(hi:X.N[i]? = some x)(hx:Loc X.env.scope x)(he:PE X e te)(hs:swapsWith e (some (.Name x pos')) pos.line X.env=pure false:=by rfl)(hf:X.fn x=true∨X.env.scope.names.lookup x=some .local:=by first|exact .inl rfl|exact .inr rfl|assumption) :
  PS X (.Assign [.Name x pos'] e pos) (qkt te (qcH i)):=by
 intro pins s σ H D I h;refine wpAny_Assign_Name (thn (he pins s σ H _ I h) fun v s1 ⟨y,H1,I1,r1,q1⟩=>?_) hs;exact qch I1 hN hi hx r1 (fun s2 I2=>⟨_,H1,I2,q1⟩) hf
end
section
variable{X:Cx}{pos:Pos}
noncomputable def qqW(c:TT)(tb:TS):TS:=fun D σ H=>∃W:Nat→St→Hp→Prop,(∃m,W m σ H)∧∀m σ H,W m σ H →
 c σ H fun b H1=>if b=true then ∃N:St→Hp→Prop,(∀σ' H',N σ' H'→∃m',m'<m∧W m' σ' H')∧tb {D with nx:=N,ct:=N,bk:=D.nx} σ H1 else D.nx σ H1
theorem qml{c:Expr}{body:List Stmt}{tc:TT}{tb:TS}(hp:PassesOwn (model X.prog X.w) X.A X.env X.xe)(hc:PT X c tc)(hb:PSs X body tb):PS X (.While c body [] pos) (qqW tc tb):=by
 intro pins s σ H D I h;obtain⟨W,⟨m0,w0⟩,turn⟩:=h;refine wpAny_While (codeAny_whileLoop (fun n s'=>∃σ' H',Inv X pins σ' H' s'∧W n σ' H') ?_ m0 ⟨σ,H,I,w0⟩);rintro n s1 ⟨σ1,H1,I1,w1⟩;refine wpAny_passesOwn hp (thn (hc pins s1 σ1 H1 _ I1 (turn n σ1 H1 w1)) fun b s2 ⟨H2,I2,q2⟩=>?_);cases b with
 |true=>
  obtain⟨N,hN,q2⟩:=q2;rw [if_pos rfl];refine wpAny_passesOwn hp (thn (hb pins s2 σ1 H2 _ I2 q2) fun f s3 q3=>?_);cases f with
  |next=>
   obtain⟨σ3,H3,I3,n3⟩:=q3;obtain⟨m',hm,w3⟩:=hN σ3 H3 n3;exact⟨m',hm,σ3,H3,I3,w3⟩
  |cont=>
   obtain⟨σ3,H3,I3,n3⟩:=q3;obtain⟨m',hm,w3⟩:=hN σ3 H3 n3;exact⟨m',hm,σ3,H3,I3,w3⟩
  |brk=>exact q3
  |ret v=>exact q3
 |false=>
  rw [if_neg Bool.false_ne_true];exact wpAny_execs_nil ⟨σ1,H2,I2,q2⟩
end
structure It where
 go:Nat→Hp→Prop
 yld:Nat→Hp→V→Hp→Prop
 stop:Nat→Hp→Prop
noncomputable def qbz(X:Cx)(pins:List (Addr×Obj))(H:Hp)(b:Addr):Prop:=
 H b=none∧b≠X.env.locals∧b∉X.fs∧(b∈X.ex∨X.s₀.heap.objs.size≤b)∧(∀x c,X.env.cells.lookup x=some c→c≠b)∧∀p∈X.pn++pins,p.1≠b
theorem Inv.fpOk{X:Cx}{pins:List (Addr×Obj)}{σ:St}{H H':Hp}{s:Shared}{b:Addr}(I:Inv X pins σ H s)(hb:s.heap.objs.size≤b)(hn:H' b=none):qbz X pins H' b:=by
 refine⟨hn,Nat.ne_of_gt (Nat.lt_of_lt_of_le I.lt hb),I.nofs hb,.inr (Nat.le_trans I.sz hb),fun x c e z=>?_,fun p hp z=>?_⟩
 ·obtain⟨v,q⟩:=I.cell x c e;exact absurd (Nat.lt_of_lt_of_le q.lt (by rw [z];exact hb)) (Nat.lt_irrefl _)
 ·exact absurd (Nat.lt_of_lt_of_le (Heap.lt_size (I.pin p hp).1) (by rw [z];exact hb)) (Nat.lt_irrefl _)
structure Turn(P:Program)(w:World)(K:PySem.W.Frag)(tg:Expr)(J:It)(fp:List Addr)(it:Addr)(tn:Nat→Heap→Prop):Prop where
 mem:it∈fp
 obj:∀i h,tn i h→∀b∈fp,∃o,h.get? b=some o∧∀v,o.data≠.cell v
 keep:∀i h h',tn i h→(∀b∈fp,∀o,h.get? b=some o→h'.get? b=some o)→tn i h'
 item:∀(X:Cx),X.prog=P→X.w=w→X.K=K→X.calm=true→∀(i:Nat) (pins:List (Addr×Obj)) (s:Shared) (σ:St) (H:Hp) (E:Value→Shared→Prop),Inv X pins σ H s→(∀b∈fp,qbz X pins H b)→tn i s.heap→J.go i H →
  wpAny (model P w) X.A (pyNext (.ref it)) (fun r s1=>∃u,r=some u ∧
   wpAny (model P w) X.A (letOwnedTupleGo tg (.ref it) u) (fun _ s2=>∃x H',Inv X pins σ H' s2∧RelV x u∧J.yld i H x H'∧tn (i+1) s2.heap∧∀b∈fp,H' b=none) E s1) E s
 done:∀(X:Cx),X.prog=P→X.w=w→X.K=K→X.calm=true→∀(i:Nat) (pins:List (Addr×Obj)) (s:Shared) (σ:St) (H:Hp) (E:Value→Shared→Prop),Inv X pins σ H s→(∀b∈fp,qbz X pins H b)→tn i s.heap→J.stop i H →
  wpAny (model P w) X.A (pyNext (.ref it)) (fun r s1=>r=none∧Inv X pins σ H s1) E s
 self:∀(A:Around) (i:Nat) (s:Shared) (Q:Value→Shared→Prop) (E:Value→Shared→Prop),tn i s.heap→Q (.ref it) s→wpAny (model P w) A (pyIter (.ref it)) Q E s
abbrev TI:=St→Hp→(It→Hp→Prop)→Prop
noncomputable def PIE(X:Cx)(pins:List (Addr×Obj))(σ:St)(tg:Expr)(R:It→Hp→Prop)(itv:Value)(s2:Shared):Prop:=
 ∃(it:Addr) (fp:List Addr) (tn:Nat→Heap→Prop) (J:It) (H':Hp),itv=.ref it∧Inv X pins σ H' s2∧Turn X.prog X.w X.K tg J fp it tn∧tn 0 s2.heap∧(∀b∈fp,qbz X pins H' b)∧R J H'
noncomputable def PI(X:Cx)(tg iter:Expr)(wi:TI):Prop:=
 ∀(pins:List (Addr×Obj)) (s:Shared) (σ:St) (H:Hp) (R:It→Hp→Prop),Inv X pins σ H s→wi σ H R →
  wpAny (model X.prog X.w) X.A (eval iter X.env) (fun v s1=>wpAny (model X.prog X.w) X.A (pyIter v) (PIE X pins σ tg R) X.xe s1) X.xe s
theorem qgU{M:Model}{A:Around}{E:Value→Shared→Prop}{s:Shared}{tg:Expr}{it:Addr}{u:Value}{o:Obj}{n:String}{vs:Array Value}{Q:Unit→Shared→Prop}(ho:s.heap.get? it=some o)(hc:o.cls=.type n)(hd:o.data=.fields vs)
  (hn:["enumerate","zip","dict_itemiterator","dict_reverseitemiterator","odict_iterator","itertools.zip_longest","itertools.pairwise"].contains n=false) (hQ:Q () s):wpAny M A (letOwnedTupleGo tg (.ref it) u) Q E s:=by
 unfold letOwnedTupleGo;cases tg<;>first
  |exact wpAny_pure hQ
  | (cases u<;>first
    |exact wpAny_pure hQ
    | (refine wpAny_bind (wpAny_load ho ?_)
       rw [hc,hd];show wpAny M A (if (["enumerate","zip","dict_itemiterator","dict_reverseitemiterator","odict_iterator","itertools.zip_longest","itertools.pairwise"].contains n&&vs[0]? == some (rawInt _))=true then _ else _) Q E s;rw [if_neg (by intro h;rw [hn,Bool.false_and]at h;cases h)];exact wpAny_pure hQ))
noncomputable def Itl(K:PySem.W.Frag)(a:Addr):It:=
 ⟨fun i H=>∃xs x,SqL K H a xs∧xs[i]? = some x,fun i H x H'=>H'=H∧∀xs,SqL K H a xs→xs[i]? = some x,fun i H=>∃xs,SqL K H a xs∧xs.length≤i⟩
noncomputable def Itt(K:PySem.W.Frag)(a:Addr):It:=
 ⟨fun i H=>∃xs x,SqT K H a xs∧xs[i]? = some x,fun i H x H'=>H'=H∧∀xs,SqT K H a xs→xs[i]? = some x,fun i H=>∃xs,SqT K H a xs∧xs.length≤i⟩
noncomputable def Itr(lo:Int)(n:Nat):It:=⟨fun i _=>i<n,fun i H x H'=>H'=H∧x=.int (lo+i),fun i _=>n≤i⟩
theorem qkL{P:Program}{w:World}{K:PySem.W.Frag}{tg:Expr}(a it:Addr):Turn P w K tg (Itl K a) [it] it (fun i h=>h.IsListIter it a i) where
 mem:=by simp
 obj:=fun i h st b hb=>by
  have e:b=it:=by simpa using hb
  subst e;obtain⟨o,e,c,d⟩:=st;exact⟨o,e,fun v z=>by rw [d]at z;cases z⟩
 keep:=fun i h h' st k=>st.at fun o e=>k it (by simp) o e
 item:=by
  intro X hP hw hK hc i pins s σ H E I hf st hg;subst hP hw hK;obtain⟨xs,x,hq,hx⟩:=hg;obtain⟨its,rv,p,hz⟩:=I.list hq;obtain⟨u,hu,ru⟩:=rv.get hx;obtain⟨f0,f1,f2,f3,f4,f5⟩:=hf it (by simp);refine wpAny_pyNext_list_item st p.isList (x:=u) (by simpa using hu) fun h' st' sb=>?_
  have I1:Inv X pins σ H {s with heap:=h'}:=I.turned (t':=s.toks) (fun b o hb e=>(sb.2 b hb).trans e) f0 f1 f3 f4 f5;obtain⟨o,e,c,d⟩:=id st';exact⟨u,rfl,qgU (s:={s with heap:=h'}) e c d (by decide) ⟨x,H,I1,ru,⟨rfl,fun ys hy=>by rw [I.list_inj hy hq];exact hx⟩,st',fun b hb=>(hf b hb).1⟩⟩
 done:=by
  intro X hP hw hK hc i pins s σ H E I hf st hg;subst hP hw hK;obtain⟨xs,hq,hx⟩:=hg;obtain⟨its,rv,p,hz⟩:=I.list hq;obtain⟨f0,f1,f2,f3,f4,f5⟩:=hf it (by simp);have hl:=rv.length;exact wpAny_pyNext_list_end (I.ok.hd hc) st p.isList (by simp;lia) fun h' eb=>⟨rfl,I.turned (t':=s.toks) (fun b o hb e=>eb b o hb e) f0 f1 f3 f4 f5⟩
 self:=fun _ _ _ _ _ st h=>wpAny_pyIter_listiter st h
theorem qjy{P:Program}{w:World}{K:PySem.W.Frag}{tg:Expr}(a it:Addr):Turn P w K tg (Itt K a) [it] it (fun i h=>h.IsTupleIter it a i) where
 mem:=by simp
 obj:=fun i h st b hb=>by
  have e:b=it:=by simpa using hb
  subst e;obtain⟨o,e,c,d⟩:=st;exact⟨o,e,fun v z=>by rw [d]at z;cases z⟩
 keep:=fun i h h' st k=>st.at fun o e=>k it (by simp) o e
 item:=by
  intro X hP hw hK hc i pins s σ H E I hf st hg;subst hP hw hK;obtain⟨xs,x,hq,hx⟩:=hg;obtain⟨its,rv,p,hz⟩:=I.tuple hq;obtain⟨u,hu,ru⟩:=rv.get hx;obtain⟨f0,f1,f2,f3,f4,f5⟩:=hf it (by simp);refine wpAny_pyNext_tuple_item st (show s.heap.IsTuple a its.toArray from p) (x:=u) (by simpa using hu) fun h' st' sb=>?_
  have I1:Inv X pins σ H {s with heap:=h'}:=I.turned (t':=s.toks) (fun b o hb e=>(sb.2 b hb).trans e) f0 f1 f3 f4 f5;obtain⟨o,e,c,d⟩:=id st';exact⟨u,rfl,qgU (s:={s with heap:=h'}) e c d (by decide) ⟨x,H,I1,ru,⟨rfl,fun ys hy=>by rw [I.tuple_inj hy hq];exact hx⟩,st',fun b hb=>(hf b hb).1⟩⟩
 done:=by
  intro X hP hw hK hc i pins s σ H E I hf st hg;subst hP hw hK;obtain⟨xs,hq,hx⟩:=hg;obtain⟨its,rv,p,hz⟩:=I.tuple hq;obtain⟨f0,f1,f2,f3,f4,f5⟩:=hf it (by simp);have hl:=rv.length;exact wpAny_pyNext_tuple_end (I.ok.hd hc) st (show s.heap.IsTuple a its.toArray from p) (by simp;lia) fun h' eb=>⟨rfl,I.turned (t':=s.toks) (fun b o hb e=>eb b o hb e) f0 f1 f3 f4 f5⟩
 self:=fun _ _ _ _ _ st h=>wpAny_pyIter_tupleiter st h
theorem qjI{P:Program}{w:World}{K:PySem.W.Frag}{tg:Expr}(it:Addr)(lo:Int)(n:Nat):Turn P w K tg (Itr lo n) [it] it (fun i h=>IsRangeIter h it (lo+(i:Nat) * 1) ((n:Int)-(i:Nat)) 1) where
 mem:=by simp
 obj:=fun i h st b hb=>by
  have e:b=it:=by simpa using hb
  subst e;exact⟨_,st,fun v z=>by
   have z':Data.fields _=Data.cell v:=z;cases z'⟩
 keep:=fun i h h' st k=>k it (by simp) _ st
 item:=by
  intro X hP hw hK hc i pins s σ H E I hf st hg;subst hP hw hK;obtain⟨f0,f1,f2,f3,f4,f5⟩:=hf it (by simp);have W:=Walks.range (prog:=X.prog) (w:=X.w) (I.ok.hd hc) it lo 1 n;refine W.item i s _ _ hg st fun v h' tk hv st' kk=>?_
  obtain⟨t,rfl⟩:=hv;have I1:Inv X pins σ H {s with heap:=h',toks:=tk}:=I.turned (fun b o hb e=>kk b o (by simpa using hb) e) f0 f1 f3 f4 f5;refine⟨_,rfl,qgU (s:={s with heap:=h',toks:=tk}) (n:="range_iterator") st' rfl rfl (by decide) ⟨.int (lo+i),H,I1,⟨t,?_⟩,⟨rfl,rfl⟩,st',fun b hb=>(hf b hb).1⟩⟩;rw [Int.mul_one]
 done:=by
  intro X hP hw hK hc i pins s σ H E I hf st hg;subst hP hw hK;obtain⟨f0,f1,f2,f3,f4,f5⟩:=hf it (by simp);exact wpAny_pyNext_range_end (I.ok.hd hc) st (by have:n≤i:=hg;lia) fun h' eb=>⟨rfl,I.turned (t':=s.toks) (fun b o hb e=>eb b o hb e) f0 f1 f3 f4 f5⟩
 self:=fun _ _ _ _ _ st h=>wpAny_pyIter_rangeiter st h
section
variable{X:Cx}{tg:Expr}
noncomputable def qte(K:PySem.W.Frag)(tl:TE):TI:=fun σ H R=>tl σ H fun x H1=>∃a,x=.ref a∧(∃xs,SqL K H1 a xs)∧R (Itl K a) H1
noncomputable def qtU(K:PySem.W.Frag)(tl:TE):TI:=fun σ H R=>tl σ H fun x H1=>∃a,x=.ref a∧(∃xs,SqT K H1 a xs)∧R (Itt K a) H1
theorem qpp{l:Expr}{tl:TE}(hl:PE X l tl):PI X tg l (qte X.K tl):=by
 intro pins s σ H R I h;refine thn (hl pins s σ H _ I h) fun v s1 ⟨x,H1,I1,r1,q1⟩=>?_
 obtain⟨a,e,⟨xs,hq⟩,q⟩:=q1;subst e;cases r1;obtain⟨its,rv,p,hz⟩:=I1.list hq;refine wpAny_pyIter_list p.isList ?_;refine⟨s1.heap.objs.size,[s1.heap.objs.size],_,_,H1,rfl,I1.kept (t':=s1.toks) fun b o e=>Heap.get?_push_of_some _ e,qkL a _,⟨_,Heap.get?_push_size _ rfl,rfl,rfl⟩,fun b hb=>?_,q⟩;have e:b=s1.heap.objs.size:=by simpa using hb
 subst e;exact I1.fpOk (Nat.le_refl _) (I1.hok.fresh (Nat.le_refl _))
theorem qqU{l:Expr}{tl:TE}(hl:PE X l tl):PI X tg l (qtU X.K tl):=by
 intro pins s σ H R I h;refine thn (hl pins s σ H _ I h) fun v s1 ⟨x,H1,I1,r1,q1⟩=>?_
 obtain⟨a,e,⟨xs,hq⟩,q⟩:=q1;subst e;cases r1;obtain⟨its,rv,p,hz⟩:=I1.tuple hq;refine wpAny_pyIter_tuple (show s1.heap.IsTuple a its.toArray from p) ?_;refine⟨s1.heap.objs.size,[s1.heap.objs.size],_,_,H1,rfl,I1.kept (t':=s1.toks) fun b o e=>Heap.get?_push_of_some _ e,qjy a _,⟨_,Heap.get?_push_size _ rfl,rfl,rfl⟩,fun b hb=>?_,q⟩;have e:b=s1.heap.objs.size:=by simpa using hb
 subst e;exact I1.fpOk (Nat.le_refl _) (I1.hok.fresh (Nat.le_refl _))
theorem qhL{pins:List (Addr×Obj)}{σ:St}{H:Hp}{s:Shared}{R:It→Hp→Prop}{E:Value→Shared→Prop}{lo hi:Int}{t u v:Tok}{tk:Nat}(I:Inv X pins σ H s)(h1:-(2^62)≤lo)(h2:lo<2^62)(h3:-(2^62)≤hi)(h4:hi<2^62)
  (q:R (Itr lo (hi-lo).toNat) H):wpAny (model X.prog X.w) X.A (pyIter (.ref s.heap.objs.size)) (PIE X pins σ tg R) E {s with heap:=s.heap.push {cls:=.type "range",data:=.fields #[.int lo t,.int hi u,.int 1 v]},toks:=tk}:=by
 refine wpAny_pyIter_range (IsRange.new ..) (small_one h1 h2 h3 h4) ?_;have I1:Inv X pins σ H {s with heap:=s.heap.push {cls:=.type "range",data:=.fields #[.int lo t,.int hi u,.int 1 v]},toks:=tk}:=I.kept fun b o e=>Heap.get?_push_of_some _ e
 refine⟨(s.heap.push {cls:=.type "range",data:=.fields #[.int lo t,.int hi u,.int 1 v]}).objs.size,[(s.heap.push {cls:=.type "range",data:=.fields #[.int lo t,.int hi u,.int 1 v]}).objs.size],_,_,H,rfl,
  I1.kept (t':=tk) fun b o e=>Heap.get?_push_of_some _ e,qjI _ lo (hi-lo).toNat,?_,fun b hb=>?_,q⟩
 ·have e1:lo+((0:Nat):Int) * 1=lo:=by simp
  have e2:(((hi-lo).toNat:Nat):Int)-((0:Nat):Int)=Builtin.Range.rangeSize lo hi 1:=by rw [rangeSize_one];split<;>lia
  show IsRangeIter _ _ (lo+((0:Nat):Int) * 1) ((((hi-lo).toNat:Nat):Int)-((0:Nat):Int)) 1;rw [e1,e2];exact Heap.get?_push_size _ rfl
 ·have e:b=(s.heap.push {cls:=.type "range",data:=.fields #[.int lo t,.int hi u,.int 1 v]}).objs.size:=by simpa using hb
  subst e;exact I1.fpOk (Nat.le_refl _) (I1.hok.fresh (Nat.le_refl _))
noncomputable def qsM(ta:TA):TI:=fun σ H R=>ta σ H fun vs H1=>∃j:Int,vs=[.int j]∧-(2^62)≤j∧j<2^62∧R (Itr 0 j.toNat) H1
noncomputable def qti(ta:TA):TI:=fun σ H R=>ta σ H fun vs H1=>∃i j:Int,vs=[.int i,.int j]∧(-(2^62)≤i∧i<2^62∧-(2^62)≤j∧j<2^62)∧R (Itr i (j-i).toNat) H1
theorem qlq{a:Expr}{ta:TA}{p pos:Pos}(hg:Gl X "range")(hm:X.mg "range" = none)(ha:PA X [a] ta)(hs:starEach [a] X.env=[(false,eval a X.env)]:=by rfl):PI X tg (.Call (.Name "range" p) [a] [] pos) (qsM ta):=by
 intro pins s σ H R I h;refine Call_ (qcg I hg hm boot_range (PyProof.Rows.callWith_type1 (thn (ha pos pins s σ H _ I h) fun us s1 ⟨vs,H1,I1,r1,q1⟩=>?_) hs rfl));obtain⟨j,e,q1,q2,q⟩:=q1;subst e;cases r1 with
 |cons r rr=>
  cases rr;obtain⟨t,rfl⟩:=r;exact call_range_1 (qhL I1 (by lia) (by lia) q1 q2 (by simpa using q))
theorem qkW{a b:Expr}{ta:TA}{p pos:Pos}(hg:Gl X "range")(hm:X.mg "range" = none)(ha:PA X [a,b] ta)(hs:starEach [a,b] X.env=[(false,eval a X.env),(false,eval b X.env)]:=by rfl)(hs2:starEach [b] X.env=[(false,eval b X.env)]:=by rfl) :
  PI X tg (.Call (.Name "range" p) [a,b] [] pos) (qti ta):=by
 intro pins s σ H R I h;refine Call_ (qcg I hg hm boot_range (PyProof.Rows.callWith_type1 (thn (ha pos pins s σ H _ I h) fun us s1 ⟨vs,H1,I1,r1,q1⟩=>?_) (by rw [hs,hs2]) (by rw [hs2];rfl)));obtain⟨i,j,e,⟨q1,q2,q3,q4⟩,q⟩:=q1;subst e;cases r1 with
 |cons r rr=>
  cases rr with
  |cons r' rr=>
   cases rr;obtain⟨t,rfl⟩:=r;obtain⟨t',rfl⟩:=r';exact call_range_2 (qhL I1 q1 q2 q3 q4 q)
noncomputable def qhs(wi:TI)(g:TG)(tb:TS):TS:=fun D σ H=>wi σ H fun J H1=>∃W:Nat→Nat→St→Hp→Prop,(∃m,W 0 m σ H1)∧∀i m σ H,W i m σ H →
 (J.stop i H∧D.nx σ H)∨(J.go i H∧∃N:St→Hp→Prop,(∀σ' H',N σ' H'→∃m',m'<m∧W (i+1) m' σ' H')∧∀x H',J.yld i H x H'→g x σ H' fun σ2 H2=>tb {D with nx:=N,ct:=N,bk:=D.nx} σ2 H2)
noncomputable def qdR(fp:List Addr)(h:Heap):List (Addr×Obj):=fp.filterMap fun b=>(h.get? b).map fun o=>(b,o)
theorem qbU{fp:List Addr}{h:Heap}{b:Addr}{o:Obj}(hb:b∈fp)(e:h.get? b=some o):(b,o)∈qdR fp h:=List.mem_filterMap.mpr ⟨b,hb,by rw [e];rfl⟩
theorem qlU{fp:List Addr}{h:Heap}{p:Addr×Obj}(hp:p∈qdR fp h):p.1∈fp∧h.get? p.1=some p.2:=by
 obtain⟨b,hb,e⟩:=List.mem_filterMap.mp hp;cases q:h.get? b with
 |none=>rw [q]at e;cases e
 |some o=>
  rw [q]at e;have e':(b,o)=p:=Option.some.inj e;subst e';exact⟨hb,q⟩
theorem Inv.pinned{pins:List (Addr×Obj)}{σ:St}{H:Hp}{s:Shared}{fp:List Addr}(I:Inv X pins σ H s)(hf:∀b∈fp,qbz X pins H b)(ho:∀b∈fp,∃o,s.heap.get? b=some o∧∀v,o.data≠.cell v):Inv X (pins++qdR fp s.heap) σ H s:=
 I.pins_of fun p hp=>(List.mem_append.mp hp).elim (fun z=>I.pin p (List.mem_append_right _ z)) fun z=>by
  obtain⟨hb,e⟩:=qlU z;obtain⟨f0,f1,f2,_⟩:=hf p.1 hb;obtain⟨o,e',d⟩:=ho p.1 hb;rw [e]at e';cases e';exact⟨e,f0,f1,f2,d⟩
theorem Inv.unpinned{pins pl:List (Addr×Obj)}{σ:St}{H:Hp}{s:Shared}(I:Inv X (pins++pl) σ H s):Inv X pins σ H s:=I.pins_of fun p hp=>I.pin p (List.mem_append_right _ (List.mem_append_left _ hp))
theorem qqN{iter:Expr}{body:List Stmt}{wi:TI}{g:TG}{tb:TS}{pos:Pos}(hp:PassesOwn (model X.prog X.w) X.A X.env X.xe)(hc:X.calm=true)(hi:PI X tg iter wi)(hg:PG X tg g)(hb:PSs X body tb)
  (hs:∀x,foldedSetIterable iter X.env x=pure x:=by intro _;rfl):PS X (.For tg iter body [] pos) (qhs wi g tb):=by
 intro pins s σ H D I h;refine wpAny_For (thn (hi pins s σ H _ I h) fun v s1 h1=>thn h1 fun itv s2 h2=>?_) hs;obtain⟨it,fp,tn,J,H2,e,I2,T,st2,f2,W,⟨m0,w0⟩,turn⟩:=h2;subst e
 -- what stays true of the iterator's objects through the loop
 have stat:∀{H':Hp},(∀b∈fp,H' b=none)→∀b∈fp,qbz X pins H' b:=fun hn b hb=>⟨hn b hb,(f2 b hb).2⟩
 refine codeAny_forLoop_any (fun n s'=>∃i σ' H',Inv X pins σ' H' s'∧tn i s'.heap∧(∀b∈fp,H' b=none)∧W i n σ' H') ?_ m0 ⟨0,σ,H2,I2,st2,fun b hb=>(f2 b hb).1,w0⟩;rintro n s3 ⟨i,σ3,H3,I3,st3,fr3,w3⟩;rcases turn i n σ3 H3 w3 with ⟨stop,qn⟩|⟨go,N,hN,step⟩
 ·refine wpAny_passesOwn hp (thn (T.done X rfl rfl rfl hc i pins s3 σ3 H3 X.xe I3 (stat fr3) st3 stop) fun r s4 ⟨hr,I4⟩=>?_);subst hr;exact wpAny_execs_nil ⟨σ3,H3,I4,qn⟩
 ·refine wpAny_passesOwn hp (thn (T.item X rfl rfl rfl hc i pins s3 σ3 H3 X.xe I3 (stat fr3) st3 go) fun r s4 ⟨u,hr,h4⟩=>?_);subst hr;refine wpAny_passesOwn hp (thn h4 fun _ s5 ⟨x,H5,I5,r5,y5,st5,fr5⟩=>?_);have I5':=I5.pinned (stat fr5) (T.obj _ _ st5);refine wpAny_passesOwn hp (thn (hg _ s5 σ3 H5 x u _ I5' r5 (step x H5 y5)) fun _ s6 ⟨σ6,H6,I6,q6⟩=>?_);refine wpAny_passesOwn hp (thn (hb _ s6 σ6 H6 _ I6 q6) fun f s7 q7=>?_);have again:∀{σ7:St}{H7:Hp},Inv X (pins++qdR fp s5.heap) σ7 H7 s7→N σ7 H7→∃m,m<n∧∃i σ' H',Inv X pins σ' H' s7∧tn i s7.heap∧(∀b∈fp,H' b=none)∧W i m σ' H':=fun {σ7 H7} I7 n7=>by
   obtain⟨m',hm,w7⟩:=hN σ7 H7 n7;refine⟨m',hm,i+1,σ7,H7,I7.unpinned,T.keep _ _ _ st5 fun b hb o e=>(I7.pin (b,o) (List.mem_append_right _ (List.mem_append_right _ (qbU hb e)))).1,fun b hb=>?_,w7⟩;obtain⟨o,e,d⟩:=T.obj _ _ st5 b hb;exact(I7.pin (b,o) (List.mem_append_right _ (List.mem_append_right _ (qbU hb e)))).2.1
  cases f with
  |next=>obtain⟨σ7,H7,I7,n7⟩:=q7;exact again I7 n7
  |cont=>obtain⟨σ7,H7,I7,n7⟩:=q7;exact again I7 n7
  |brk=>obtain⟨σ7,H7,I7,q7⟩:=q7;exact⟨σ7,H7,I7.unpinned,q7⟩
  |ret v=>obtain⟨x7,σ7,H7,I7,r7,q7⟩:=q7;exact⟨x7,σ7,H7,I7.unpinned,r7,q7⟩
end
abbrev R2:=V→V→Hp→VK→Prop
noncomputable def OpR(X:Cx)(f:Value→Value→Sem Value)(r:R2):Prop:=
 ∀(pins:List (Addr×Obj)) (s:Shared) (σ:St) (H:Hp) (x y:V) (v u:Value) (Q:VK),Inv X pins σ H s→RelV x v→RelV y u→r x y H Q →
  wpAny (model X.prog X.w) X.A (f v u) (EP X pins σ Q) X.xe s
noncomputable def UnR(X:Cx)(f:Value→Sem Value)(r:V→Hp→VK→Prop):Prop:=
 ∀(pins:List (Addr×Obj)) (s:Shared) (σ:St) (H:Hp) (x:V) (v:Value) (Q:VK),Inv X pins σ H s→RelV x v→r x H Q →
  wpAny (model X.prog X.w) X.A (f v) (EP X pins σ Q) X.xe s
noncomputable def qz(X:Cx)(f:Value)(r:List V→Hp→VK→Prop):Prop:=
 ∀(pins:List (Addr×Obj)) (s:Shared) (σ:St) (H:Hp) (xs:List V) (us:List Value) (Q:VK),Inv X pins σ H s→Vals xs us→r xs H Q →
  wpAny (model X.prog X.w) X.A (call f us) (EP X pins σ Q) X.xe s
noncomputable def qtO(X:Cx)(r:V→Hp→(Bool→Hp→Prop)→Prop):Prop:=
 ∀(pins:List (Addr×Obj)) (s:Shared) (σ:St) (H:Hp) (x:V) (v:Value) (Q:Bool→Hp→Prop),Inv X pins σ H s→RelV x v→r x H Q →
  wpAny (model X.prog X.w) X.A (truthy v) (TP X pins σ Q) X.xe s
noncomputable def tOp(r:R2)(ta tb:TE):TE:=fun σ H Q=>ta σ H fun x H1=>tb σ H1 fun y H2=>r x y H2 Q
noncomputable def tUn(r:V→Hp→VK→Prop)(ta:TE):TE:=fun σ H Q=>ta σ H fun x H1=>r x H1 Q
noncomputable def rI(C:Int→Int→Prop)(g:Int→Int→V):R2:=fun x y H Q=>∃i j,x=.int i∧y=.int j∧C i j∧Q (g i j) H
noncomputable def rI0(g:Int→Int→V):R2:=fun x y H Q=>∃i j,x=.int i∧y=.int j∧Q (g i j) H
noncomputable def rU(g:Int→V):V→Hp→VK→Prop:=fun x H Q=>∃i,x=.int i∧Q (g i) H
section
variable{X:Cx}{a b c:Expr}{ta tb tc:TE}{pos:Pos}
theorem qnK(ha:PE X a ta)(hb:PE X b tb){pins:List (Addr×Obj)}{s:Shared}{σ:St}{H:Hp}{R:V→V→Hp→Prop}(I:Inv X pins σ H s)
  (h:ta σ H fun x H1=>tb σ H1 fun y H2=>R x y H2) {Q:Value→Shared→Prop}{f:Value→Value→Sem Value}
  (hf:∀v u s2 x y H2,Inv X pins σ H2 s2→RelV x v→RelV y u→R x y H2→wpAny (model X.prog X.w) X.A (f v u) Q X.xe s2) :
  wpAny (model X.prog X.w) X.A (eval a X.env) (fun v s₁=>wpAny (model X.prog X.w) X.A (eval b X.env) (fun u s₂=>wpAny (model X.prog X.w) X.A (f v u) Q X.xe s₂) X.xe s₁) X.xe s:=by
 refine thn (ha pins s σ H _ I h) fun v s1 ⟨x,H1,I1,r1,q1⟩=>?_
 refine thn (hb pins s1 σ H1 _ I1 q1) fun u s2 ⟨y,H2,I2,r2,q2⟩=>?_
 exact hf v u s2 x y H2 I2 r1 r2 q2
theorem qtz{op:Operator}{r:R2}(ho:OpR X (binaryOp op) r)(ha:PE X a ta)(hb:PE X b tb):PE X (.BinOp a op b pos) (tOp r ta tb):=by
 intro pins s σ H Q I h;exact wpAny_BinOp (qnK ha hb I h fun v u s2 x y H2 I2 rx ry q=>ho pins s2 σ H2 x y v u Q I2 rx ry q)
theorem qkA{op:UnaryOp}{r:V→Hp→VK→Prop}(ho:UnR X (unaryOp op) r)(ha:PE X a ta):PE X (.UnaryOp op a pos) (tUn r ta):=by
 intro pins s σ H Q I h;exact UnaryOp_ (thn (ha pins s σ H _ I h) fun v s1 ⟨x,H1,I1,r1,q1⟩=>ho pins s1 σ H1 x v Q I1 r1 q1)
theorem opI{f:Value→Value→Sem Value}{C:Int→Int→Prop}{g:Int→Int→Int}
  (rule:∀(i j:Int) (t u:Tok) (s:Shared) (Q:Value→Shared→Prop) (E:Value→Shared→Prop),C i j→Q (.int (g i j) s.toks) {s with toks:=s.toks+1}→wpAny (model X.prog X.w) X.A (f (.int i t) (.int j u)) Q E s) :
  OpR X f (rI C fun i j=>.int (g i j)):=by
 intro pins s σ H x y v u Q I rx ry h;obtain⟨i,j,rfl,rfl,hc,q⟩:=h;obtain⟨t,rfl⟩:=rx;obtain⟨t',rfl⟩:=ry;exact rule i j t t' s _ _ hc ⟨.int (g i j),H,I.tok _,⟨_,rfl⟩,q⟩
theorem qhY{f:Value→Value→Sem Value}{g:Int→Int→Int}
  (rule:∀(i j:Int) (t u:Tok) (s:Shared) (Q:Value→Shared→Prop) (E:Value→Shared→Prop),Q (.int (g i j) s.toks) {s with toks:=s.toks+1}→wpAny (model X.prog X.w) X.A (f (.int i t) (.int j u)) Q E s) :
  OpR X f (rI0 fun i j=>.int (g i j)):=by
 intro pins s σ H x y v u Q I rx ry h;obtain⟨i,j,rfl,rfl,q⟩:=h;obtain⟨t,rfl⟩:=rx;obtain⟨t',rfl⟩:=ry;exact rule i j t t' s _ _ ⟨.int (g i j),H,I.tok _,⟨_,rfl⟩,q⟩
theorem qks{f:Value→Value→Sem Value}{g:Int→Int→Bool}
  (rule:∀(i j:Int) (t u:Tok) (s:Shared) (Q:Value→Shared→Prop) (E:Value→Shared→Prop),Q (.bool (g i j)) s→wpAny (model X.prog X.w) X.A (f (.int i t) (.int j u)) Q E s) :
  OpR X f (rI0 fun i j=>.bl (g i j)):=by
 intro pins s σ H x y v u Q I rx ry h;obtain⟨i,j,rfl,rfl,q⟩:=h;obtain⟨t,rfl⟩:=rx;obtain⟨t',rfl⟩:=ry;exact rule i j t t' s _ _ ⟨.bl (g i j),H,I,rfl,q⟩
noncomputable def qsb(i j:Int):Prop:=0≤j∧j≤1000000∧i.natAbs<2^64
noncomputable def qry(i j:Int):Prop:=(-(2^64)<i∧i<2^64)∨(-(2^64)<j∧j<2^64)
theorem qry.ok{i j:Int}(h:qry i j):IntMulOk i j:=by
 rcases h with ⟨h1,h2⟩|⟨h1,h2⟩
 ·exact .of_left (intBits_le_64 h1 h2)
 ·exact .of_right (intBits_le_64 h1 h2)
theorem qko(k:Nat):(0:Int)≤2^k:=by
 rw [two_pow_cast];exact Int.natCast_nonneg _
theorem quB:OpR X (binaryOp .Add) (rI0 fun i j=>.int (i+j)):=qhY fun _ _ _ _ _ _ _ q=>add_int q
theorem qrY:OpR X (binaryOp .Sub) (rI0 fun i j=>.int (i-j)):=qhY fun _ _ _ _ _ _ _ q=>sub_int q
theorem quA:OpR X (binaryOp .Mult) (rI qry fun i j=>.int (i * j)):=opI fun _ _ _ _ _ _ _ hc q=>mul_int q hc.ok
theorem qrJ:OpR X (binaryOp .Mod) (rI (fun _ j=>0<j) fun i j=>.int (i%j)):=opI fun i j _ _ _ _ _ hc q=>by
 have h1:(0:Int)<j:=hc;exact mod_int' (by lia) (by rw [Int.fmod_eq_emod_of_nonneg i (by lia)];exact q)
theorem qqF:OpR X (binaryOp .Pow) (rI qsb fun i j=>.int (i^j.toNat)):=opI fun _ _ _ _ _ _ _ hc q=>pow_int_small hc.1 hc.2.1 hc.2.2 q
theorem qqq:OpR X (binaryOp .LShift) (rI qsb fun i j=>.int (i * 2^j.toNat)):=opI fun _ _ _ _ _ _ _ hc q=>lshift_int_small hc.1 hc.2.1 hc.2.2 q
theorem qrf:OpR X (binaryOp .RShift) (rI (fun _ j=>0≤j) fun i j=>.int (i/2^j.toNat)):=opI fun i j _ _ _ _ _ hc q=>
 rshift_int hc (by rw [Int.fdiv_eq_ediv_of_nonneg i (qko _)];exact q)
theorem qrK:OpR X (binaryOp .BitAnd) (rI0 fun i j=>.int (Builtin.bitAnd i j)):=qhY fun _ _ _ _ _ _ _ q=>and_int q
theorem qsX:OpR X (binaryOp .BitOr) (rI0 fun i j=>.int (Builtin.bitOr i j)):=qhY fun _ _ _ _ _ _ _ q=>or_int q
theorem qqQ:OpR X (binaryOp .BitXor) (rI0 fun i j=>.int (Builtin.bitXor i j)):=qhY fun _ _ _ _ _ _ _ q=>xor_int q
theorem unI{f:Value→Sem Value}{g:Int→Int}
  (rule:∀(i:Int) (t:Tok) (s:Shared) (Q:Value→Shared→Prop) (E:Value→Shared→Prop),Q (.int (g i) s.toks) {s with toks:=s.toks+1}→wpAny (model X.prog X.w) X.A (f (.int i t)) Q E s) :
  UnR X f (rU fun i=>.int (g i)):=by
 intro pins s σ H x v Q I rx h;obtain⟨i,rfl,q⟩:=h;obtain⟨t,rfl⟩:=rx;exact rule i t s _ _ ⟨.int (g i),H,I.tok _,⟨_,rfl⟩,q⟩
theorem qkS:UnR X (unaryOp .USub) (rU fun i=>.int (-i)):=unI fun _ _ _ _ _ q=>neg_int q
theorem qqb:UnR X (unaryOp .Invert) (rU fun i=>.int (Builtin.bitNot i)):=unI fun _ _ _ _ _ q=>invert_int q
end
section
variable{X:Cx}{a b c:Expr}{ta tb tc:TE}{pos:Pos}
theorem qfp{pins:List (Addr×Obj)}{σ:St}{H:Hp}{s:Shared}{Q:VK}{k k':Bool}(I:Inv X pins σ H s)(q:Q (.bl k) H)(e:k=k'):EP X pins σ Q (.bool k') s:=by
 subst e;exact⟨.bl k,H,I,rfl,q⟩
theorem quC:OpR X (compareOp .Lt) (rI0 fun i j=>.bl (decide (i<j))):=qks fun _ _ _ _ _ _ _ q=>lt_int q
theorem qtw:OpR X (compareOp .LtE) (rI0 fun i j=>.bl (decide (i≤j))):=qks fun _ _ _ _ _ _ _ q=>le_int q
theorem qsI:OpR X (compareOp .Gt) (rI0 fun i j=>.bl (decide (j<i))):=qks fun _ _ _ _ _ _ _ q=>gt_int q
theorem qsU:OpR X (compareOp .GtE) (rI0 fun i j=>.bl (decide (j≤i))):=qks fun _ _ _ _ _ _ _ q=>ge_int q
theorem quz:OpR X (compareOp .Is) (fun x y H Q=>y=.non∧Q (.bl (decide (x=.non))) H):=by
 intro pins s σ H x y v u Q I rx ry h;obtain⟨rfl,q⟩:=h;cases ry;refine is_none_gen (qfp I q ?_);cases x<;>first
  | (cases rx;rfl)
  | (obtain⟨t,rfl⟩:=rx;rfl)
theorem quu:OpR X (compareOp .IsNot) (fun x y H Q=>y=.non∧Q (.bl (!decide (x=.non))) H):=by
 intro pins s σ H x y v u Q I rx ry h;obtain⟨rfl,q⟩:=h;cases ry;refine isnot_none_gen (qfp I q ?_);cases x<;>first
  | (cases rx;rfl)
  | (obtain⟨t,rfl⟩:=rx;rfl)
theorem OpR.or{f:Value→Value→Sem Value}{r r':R2}(h:OpR X f r)(h':OpR X f r'):OpR X f (fun x y H Q=>r x y H Q∨r' x y H Q):=by
 intro pins s σ H x y v u Q I rx ry q;rcases q with q|q
 ·exact h pins s σ H x y v u Q I rx ry q
 ·exact h' pins s σ H x y v u Q I rx ry q
theorem qpT{op:CmpOp}{r:R2}(ho:OpR X (compareOp op) r)(ha:PE X a ta)(hb:PE X b tb)(hm:behindInMarks op b=false):PE X (.Compare a [op] [b] pos) (tOp r ta tb):=by
 intro pins s σ H Q I h;exact wpAny_Compare1 (qnK ha hb I h fun v u s2 x y H2 I2 rx ry q=>ho pins s2 σ H2 x y v u Q I2 rx ry q) hm
noncomputable def qjB(t:TE):TT:=fun σ H Q=>t σ H fun x H'=>∃k,x=.bl k∧Q k H'
theorem qoH{op:CmpOp}{r:R2}(ho:OpR X (compareOp op) r)(ha:PE X a ta)(hb:PE X b tb)(hm:behindInMarks op b=false):PT X (.Compare a [op] [b] pos) (qjB (tOp r ta tb)):=by
 intro pins s σ H Q I h;refine wpAny_isTrue_Compare1 (thn (ha pins s σ H _ I h) fun v s1 ⟨x,H1,I1,r1,q1⟩=>thn (hb pins s1 σ H1 _ I1 q1) fun u s2 ⟨y,H2,I2,r2,q2⟩=>
  thn (ho pins s2 σ H2 x y v u _ I2 r1 r2 q2) fun c s3 ⟨z,H3,I3,r3,k,e,q3⟩=>?_) hm
 subst e;cases r3;exact wpAny_truthy_bool ⟨H3,I3,q3⟩
noncomputable def qlV(r r':R2)(ta tb tc:TE):TE:=fun σ H Q=>ta σ H fun x H1=>tb σ H1 fun y H2=>r x y H2 fun z H3=>∃k,z=.bl k ∧
 (if k=true then tc σ H3 fun w' H4=>r' y w' H4 Q else Q (.bl false) H3)
theorem qmX{op op':CmpOp}{r r':R2}(ho:OpR X (compareOp op) r)(ho':OpR X (compareOp op') r')(ha:PE X a ta)(hb:PE X b tb)(hc:PE X c tc)
  (hm:lastMarks [op,op'] [b,c]=false:=by with_unfolding_all rfl):PE X (.Compare a [op,op'] [b,c] pos) (qlV r r' ta tb tc):=by
 intro pins s σ H Q I h;refine Compare_chain (thn (ha pins s σ H _ I h) fun v s1 ⟨x,H1,I1,r1,q1⟩=>chain_link (thn (hb pins s1 σ H1 _ I1 q1) fun u s2 ⟨y,H2,I2,r2,q2⟩=>
  thn (ho pins s2 σ H2 x y v u _ I2 r1 r2 q2) fun d s3 ⟨z,H3,I3,r3,k,e,q3⟩=>?_)) hm
 subst e;cases r3;refine wpAny_truthy_bool ?_;cases k with
 |false=>exact ite_ff ⟨.bl false,H3,I3,rfl,q3⟩
 |true=>exact ite_tt (chain_last (thn (hc pins s3 σ H3 _ I3 q3) fun w' s4 ⟨z',H4,I4,r4,q4⟩=>ho' pins s4 σ H4 y z' u w' Q I4 r2 r4 q4))
theorem qnI{op op':CmpOp}{r r':R2}(ho:OpR X (compareOp op) r)(ho':OpR X (compareOp op') r')(ha:PE X a ta)(hb:PE X b tb)(hc:PE X c tc)
  (hm:lastMarks [op,op'] [b,c]=false:=by with_unfolding_all rfl):PT X (.Compare a [op,op'] [b,c] pos) (qjB (qlV r r' ta tb tc)):=by
 intro pins s σ H Q I h;refine isTrue_chain (thn (ha pins s σ H _ I h) fun v s1 ⟨x,H1,I1,r1,q1⟩=>test_link (thn (hb pins s1 σ H1 _ I1 q1) fun u s2 ⟨y,H2,I2,r2,q2⟩=>
  thn (ho pins s2 σ H2 x y v u _ I2 r1 r2 q2) fun d s3 ⟨z,H3,I3,r3,k,e,q3⟩=>?_)) hm
 subst e;cases r3;refine wpAny_truthy_bool ?_;cases k with
 |false=>
  obtain⟨k',e',q'⟩:=q3;cases e';exact ite_ff ⟨H3,I3,q'⟩
 |true=>
  refine ite_tt (test_last (thn (hc pins s3 σ H3 _ I3 q3) fun w' s4 ⟨z',H4,I4,r4,q4⟩=>thn (ho' pins s4 σ H4 y z' u w' _ I4 r2 r4 q4) fun d' s5 ⟨z2,H5,I5,r5,k2,e2,q5⟩=>?_));subst e2;cases r5;exact wpAny_truthy_bool ⟨H5,I5,q5⟩
noncomputable def qmP(K:PySem.W.Frag)(x:V)(H:Hp)(k:Bool):Prop:=
 match x with
 | .non=>k=false
 | .bl b=>k=b
 | .int i=>k=(i != 0)
 | .str y=>y.length≤sizeLine∧k=((y.length:Int) != 0)
 | .byt y=>y.size≤sizeLine∧k=((y.size:Int) != 0)
 | .ref p=>(∃xs,SqL K H p xs∧k = !xs.isEmpty)∨(∃xs,SqT K H p xs∧k = !xs.isEmpty)∨∃kvs,H p=some (.dK kvs)∧k = !kvs.isEmpty
 |_=>False
theorem qjR{κ:Type}{kvs:List (κ×V)}{vs:List (κ×Value)}(r:KV kvs vs):(!vs.isEmpty) = !kvs.isEmpty:=by
 cases r<;>rfl
theorem qfk{xs:List V}{its:List Value}(r:Vals xs its):(!its.toArray.isEmpty) = !xs.isEmpty:=by
 cases r<;>simp
theorem qdL:(sizeLine:Nat)<2^63:=by rw [sizeLine_eq];decide
theorem qrr:qtO X (fun x H Q=>∃k,qmP X.K x H k∧Q k H):=by
 intro pins s σ H x v Q I rx h;obtain⟨k,e,q⟩:=h;have hl:=qdL;have hs:sizeLine=16777216:=sizeLine_eq;cases x with
 |non=>
  cases rx;have e':k=false:=e;subst e';exact truthy_none ⟨H,I,q⟩
 |bl b=>
  cases rx;have e':k=b:=e;subst e';exact wpAny_truthy_bool ⟨H,I,q⟩
 |int i=>
  obtain⟨t,rfl⟩:=rx;have e':k=(i != 0):=e;subst e';exact PySem.P.truthy_int ⟨H,I,q⟩
 |str y=>
  obtain⟨t,rfl⟩:=rx;obtain⟨hy,e'⟩:y.length≤sizeLine∧k=((y.length:Int) != 0):=e;subst e';exact PySem.P.truthy_str (by lia) ⟨H,I.tok _,q⟩
 |byt y=>
  obtain⟨t,rfl⟩:=rx;obtain⟨hy,e'⟩:y.size≤sizeLine∧k=((y.size:Int) != 0):=e;subst e';exact PySem.W.truthy_bytes (by lia) ⟨H,I.tok _,q⟩
 |ref p=>
  cases rx;have e':(∃xs,SqL X.K H p xs∧k = !xs.isEmpty)∨(∃xs,SqT X.K H p xs∧k = !xs.isEmpty)∨∃kvs,H p=some (.dK kvs)∧k = !kvs.isEmpty:=e;rcases e' with ⟨xs,hx,e'⟩|⟨xs,hx,e'⟩|⟨kvs,hx,e'⟩
  ·subst e';obtain⟨its,r,pl,hz⟩:=I.list hx;have hlen:=r.length;exact wpAny_truthy_list pl.isList (by simp only [List.size_toArray];lia) ⟨H,I.tok _,by rw [qfk r];exact q⟩
  ·subst e';obtain⟨its,r,pl,hz⟩:=I.tuple hx;have hlen:=r.length;exact truthy_tuple pl (by simp only [List.size_toArray];lia) ⟨H,I.tok _,by rw [qfk r];exact q⟩
  ·subst e';obtain⟨hz,hS,vs,r,m⟩:kvs.length≤sizeLine∧(p==sysModules)=false∧∃vs,KV kvs vs∧s.heap.DictOf (qfE X.prog X.w) p vs:=I.hok p _ hx;have hlen:kvs.length=vs.length:=Paired.length r;exact wpAny_truthy_dict hS m (by lia) ⟨H,I.tok _,by rw [qjR r];exact q⟩
 |_=>exact(show False from e).elim
theorem qnh(ha:PE X a ta)(he:∀whole,isTrue a X.env whole=(do let v ←whole;standAt a.pos;holding [v] (truthy v))) :
  PT X a (fun σ H Q=>ta σ H fun x H'=>∃k,qmP X.K x H' k∧Q k H'):=by
 intro pins s σ H Q I h;exact isTrue_plain (thn (ha pins s σ H _ I h) fun v s1 ⟨x,H1,I1,r1,q1⟩=>qrr pins s1 σ H1 x v Q I1 r1 q1) (he _)
theorem vals1{x:V}{us:List Value}(r:Vals [x] us):∃u,us=[u]∧RelV x u:=by
 cases r with
 |cons r1 r2=>cases r2;exact⟨_,rfl,r1⟩
theorem vals2{x y:V}{us:List Value}(r:Vals [x,y] us):∃u w',us=[u,w']∧RelV x u∧RelV y w':=by
 cases r with
 |cons r1 r2=>
  cases r2 with
  |cons r3 r4=>cases r4;exact⟨_,_,rfl,r1,r3⟩
theorem qmU:qz X (.builtin "abs") (fun xs H Q=>∃i,xs=[.int i]∧Q (.int (if i<0 then -i else i)) H):=by
 intro pins s σ H xs us Q I r h;obtain⟨i,rfl,q⟩:=h;obtain⟨u,rfl,t,rfl⟩:=vals1 r;exact call_abs_int fun u tk=>⟨.int (if i<0 then -i else i),H,I.tok _,⟨_,rfl⟩,q⟩
theorem qlt(hc:X.calm=true):qz X (.builtin "max") (fun xs H Q=>∃i j,xs=[.int i,.int j]∧Q (.int (if j>i then j else i)) H):=by
 intro pins s σ H xs us Q I r h;obtain⟨i,j,rfl,q⟩:=h;obtain⟨u,w',rfl,⟨t,rfl⟩,⟨t',rfl⟩⟩:=vals2 r;refine max_two_ints (I.ok.hd hc) fun h' tk k=>⟨_,H,I.kept k,?_,q⟩
 by_cases hj:j>i
 ·rw [if_pos hj,if_pos hj];exact⟨_,rfl⟩
 ·rw [if_neg hj,if_neg hj];exact⟨_,rfl⟩
theorem qma(hc:X.calm=true):qz X (.builtin "min") (fun xs H Q=>∃i j,xs=[.int i,.int j]∧Q (.int (if j<i then j else i)) H):=by
 intro pins s σ H xs us Q I r h;obtain⟨i,j,rfl,q⟩:=h;obtain⟨u,w',rfl,⟨t,rfl⟩,⟨t',rfl⟩⟩:=vals2 r;refine min_two_ints (I.ok.hd hc) fun h' tk k=>⟨_,H,I.kept k,?_,q⟩
 by_cases hj:j<i
 ·rw [if_pos hj,if_pos hj];exact⟨_,rfl⟩
 ·rw [if_neg hj,if_neg hj];exact⟨_,rfl⟩
theorem qlQ:qz X (.type "int") (fun xs H Q=>(∃i,xs=[.int i]∧Q (.int i) H)∨∃k,xs=[.bl k]∧Q (.int (if k then 1 else 0)) H):=by
 intro pins s σ H xs us Q I r h;rcases h with ⟨i,rfl,q⟩|⟨k,rfl,q⟩
 ·obtain⟨u,rfl,t,rfl⟩:=vals1 r;exact call_int_int ⟨.int i,H,I,⟨_,rfl⟩,q⟩
 ·obtain⟨u,rfl,r1⟩:=vals1 r;cases r1;exact call_int_bool ⟨.int (if k then 1 else 0),H,I.tok _,⟨_,rfl⟩,q⟩
theorem qjC:qz X (.type "bool") (fun xs H Q=>(∃i,xs=[.int i]∧Q (.bl (i != 0)) H)∨∃k,xs=[.bl k]∧Q (.bl k) H):=by
 intro pins s σ H xs us Q I r h;rcases h with ⟨i,rfl,q⟩|⟨k,rfl,q⟩
 ·obtain⟨u,rfl,t,rfl⟩:=vals1 r;exact call_bool_int ⟨.bl (i != 0),H,I,rfl,q⟩
 ·obtain⟨u,rfl,r1⟩:=vals1 r;cases r1;exact call_bool_bool ⟨.bl k,H,I,rfl,q⟩
end
structure qqX(h:Heap)(x dx C:Addr)(mA:Str→Option Value):Prop where
 obj:h.get? x=some (PySem.W.instObj C dx)
 ns:h.Ns1 dx mA
 ne:dx≠x
theorem qli{h:Heap}{dx:Addr}{mA:Str→Option Value}(n:h.Ns1 dx mA):∃od,h.get? dx=some od∧∀name,PySem.W.lookIn name od=some (mA name):=by
 obtain⟨o,es,ep,ho,hd,hk,_,hm⟩:=n;refine⟨o,ho,fun name=>?_⟩;have e:=hm name;unfold nsFind findBy at e;rw [←Array.find?_toList]at e;unfold PySem.W.lookIn;rw [hd];dsimp only;split
 ·rename_i y q
  rw [q]at e;exact congrArg some e
 ·rename_i q
  rw [q]at e;have a:es.toList.any (·.refKey)=false:=by
   rw [List.any_eq_false];intro y hy;obtain⟨z,t,hkey⟩:=hk y (Array.mem_toList_iff.mp hy);simp [DictEntry.refKey,hkey]
  have a':¬ es.toList.any (·.refKey)=true:=by rw [a];exact Bool.false_ne_true
  rw [if_neg a'];exact congrArg some e
theorem qqX.look{h:Heap}{x dx C:Addr}{mA:Str→Option Value}(I:qqX h x dx C mA):∃od,PySem.W.InstAt h x (PySem.W.instObj C dx) C (some od)∧∀name,PySem.W.lookIn name od=some (mA name):=
 let ⟨od,ho,hl⟩:=qli I.ns
 ⟨od,⟨I.obj,rfl,rfl,ho⟩,hl⟩
section
variable{prog:Program}{w:World}{A:Around}{E:Value→Shared→Prop}{s:Shared}{K:PySem.W.Frag}{x dx C f:Addr}{mA:Str→Option Value}{name:Str}{v:Value}
end
section
variable{P:Program}{w:World}{H H':Hp}{h h':Heap}{a C dx:Addr}{fs fs':List (Str×V)}
theorem qoR(hok:HOk P w H h)(e:H a=some (.ins C dx fs)):∃mA,qqX h a dx C mA∧(∀f,qne (fs.lookup f) (mA f))∧PySem.Within mA (fs.map (·.1))∧fs.length≤1000∧H dx=some (.own a):=by
 obtain⟨d,z,ne,ob,mA,n,r,q⟩:=(show zM P w H h a (.ins C dx fs)from hok a _ e)
 exact⟨mA,⟨ob,n,ne⟩,r,q,z,d⟩
end
structure Cls(K:PySem.W.Frag)(C:Addr):Prop where
 pg:PySem.W.plainGet K C Str.empty=true
 hd:PySem.W.hasDictIn K C=true
 po:PySem.W.plainOver K C=true
 sa:PySem.W.findIn K (.ref C) "__setattr__" = some (some (.builtin "object.__setattr__"))
theorem Cls.get{K:PySem.W.Frag}{C:Addr}(c:Cls K C)(f:Str):PySem.W.plainGet K C f=true:=c.pg
section
variable{X:Cx}{pins:List (Addr×Obj)}{σ:St}{H:Hp}{s:Shared}{a C dx:Addr}{fs:List (Str×V)}{f:Str}{v:V}{A:Around}{E:Value→Shared→Prop}
end
section
variable{X:Cx}{o e value:Expr}{f:Str}{pos pos' tpos:Pos}{ta tv:TE}
end
section
variable{X:Cx}{pins:List (Addr×Obj)}{σ:St}{H:Hp}{s:Shared}{A:Around}{E:Value→Shared→Prop}{Q:Value→Shared→Prop}{c:Value}{b:Bool}
inductive qbw(K:PySem.W.Frag)(H:Hp):V→Value→Prop where
 |non:qbw K H .non (.type "NoneType")
 |bl (x:Bool):qbw K H (.bl x) (.type "bool")
 |int (i:Int):qbw K H (.int i) (.type "int")
 |str (x:Str):qbw K H (.str x) (.type "str")
 |flt (x:UInt64):qbw K H (.flt x) (.type "float")
 |lst {a:Addr}{xs:List V} (e:H a=some (.lst xs)):qbw K H (.ref a) (.type "list")
 |frz {a:Addr}{o:Obj}{xs:List V} (e:H a=some (.frz o (.lst xs))):qbw K H (.ref a) (.type "list")
 |tup {a:Addr}{xs:List V} (e:H a=some (.tup xs)):qbw K H (.ref a) (.type "tuple")
 |dK {a:Addr}{kvs:List (Key×V)} (e:H a=some (.dK kvs)):qbw K H (.ref a) (.type "dict")
 |dT {a:Addr}{kvs:List (List Key×V)} (e:H a=some (.dT kvs)):qbw K H (.ref a) (.type "dict")
 |ins {a C dx:Addr}{fs:List (Str×V)} (e:H a=some (.ins C dx fs)) (cl:Cls K C) (ha:PySem.W.findIn K (.ref C) "__class__" = some (some (.builtin "object.__class__")))
   (hn:PySem.W.specialIn K (.builtin "object.__class__") "__get__" = some (some (.builtin "getset_descriptor.__get__"))) (htk:PySem.W.takesIn K (.builtin "object.__class__")=some true)
   (hm:PySem.W.mroIn K C (.type "object")=some true):qbw K H (.ref a) (.ref C)
theorem qba{x:V}{u t:Value}(I:Inv X pins σ H s)(rx:RelV x u)(ty:qbw X.K H x t)(e:PySem.W.kitOne X.K t c=some b)(h:∀tk,Q (.bool b) {s with toks:=tk}) :
  wpAny (model X.prog X.w) A (call (.builtin "isinstance") [u,c]) Q E s:=by
 cases ty with
 |non=>cases (show u=Value.none from rx);exact PySem.W.kia_one PySem.W.kitx_none I.kIn True.intro e (fun z=>nomatch z) h
 |bl y=>cases (show u=Value.bool y from rx);exact PySem.W.kia_one PySem.W.kitx_bool I.kIn True.intro e (fun z=>nomatch z) h
 |int i=>obtain⟨t,q⟩:=(show ∃t,u=Value.int i t from rx);cases q;exact PySem.W.kia_one PySem.W.kitx_int I.kIn True.intro e (fun z=>nomatch z) h
 |str y=>obtain⟨t,q⟩:=(show ∃t,u=Value.str y t from rx);cases q;exact PySem.W.kia_one PySem.W.kitx_str I.kIn True.intro e (fun z=>nomatch z) h
 |flt y=>obtain⟨t,q⟩:=(show ∃t,u=Value.float y t from rx);cases q;exact PySem.W.kia_one PySem.W.kitx_float I.kIn True.intro e (fun z=>nomatch z) h
 | @lst a xs ea=>
  cases (show u=Value.ref a from rx);obtain⟨_,_,n,_,h1⟩:=(show zM X.prog X.w H s.heap a (.lst xs)from I.hok a _ ea)
  exact PySem.W.kia_one PySem.W.kitx_list I.kIn ⟨_,h1,rfl⟩ e (fun z=>nomatch z) h
 | @frz a ob xs ea=>
  cases (show u=Value.ref a from rx);obtain⟨_,_,_,n,_,h1⟩:=(show zM X.prog X.w H s.heap a (.frz ob (.lst xs))from I.hok a _ ea)
  exact PySem.W.kia_one PySem.W.kitx_list I.kIn ⟨_,h1,rfl⟩ e (fun z=>nomatch z) h
 | @tup a xs ea=>
  cases (show u=Value.ref a from rx);obtain⟨_,_,_,p⟩:=(show zM X.prog X.w H s.heap a (.tup xs)from I.hok a _ ea)
  obtain⟨o,h1,h2,_⟩:=p;exact PySem.W.kia_one PySem.W.kitx_tuple I.kIn ⟨o,h1,h2⟩ e (fun z=>nomatch z) h
 | @dK a kvs ea=>
  cases (show u=Value.ref a from rx);obtain⟨_,_,vs,_,p⟩:=(show zM X.prog X.w H s.heap a (.dK kvs)from I.hok a _ ea)
  obtain⟨o,es,ep,h1,h2,_⟩:=p;exact PySem.W.kia_one PySem.W.kitx_dict I.kIn ⟨o,h1,h2.1⟩ e (fun z=>nomatch z) h
 | @dT a kvs ea=>
  cases (show u=Value.ref a from rx);obtain⟨_,_,xs,_,o,es,ep,h1,h2,_⟩:=(show zM X.prog X.w H s.heap a (.dT kvs)from I.hok a _ ea)
  exact PySem.W.kia_one PySem.W.kitx_dict I.kIn ⟨o,h1,h2.1⟩ e (fun z=>nomatch z) h
 | @ins a C dx fs ea cl ha hn htk hm=>
  cases (show u=Value.ref a from rx);obtain⟨mA,O,_⟩:=qoR I.hok ea;obtain⟨od,J,_⟩:=O.look;exact PySem.W.kia_one (PySem.W.kitx_own (cl.get _) cl.hd ha hn htk hm) I.kIn J e (fun z=>nomatch z) h
end
structure qbi(k:Nat)(A:Around):Prop where
 hd:A.handled=none
 dp:A.depth+3 * k+5<recursionLimit
 un:A.units+16 * k+200<cLine
theorem qbi.deeper{k:Nat}{A:Around}(r:qbi (k+1) A)(env:Env):qbi k (A.deeper env):=
 ⟨r.hd,by have:=r.dp;show A.depth+1+3 * k+5<_;lia,by have:=r.un;show A.units+3+16 * k+200<_;lia⟩
theorem qbi.depth{k:Nat}{A:Around}(r:qbi k A):A.depth<recursionLimit:=by have:=r.dp;lia
theorem qbi.units{k:Nat}{A:Around}(r:qbi k A):A.units+64<cLine:=by have:=r.un;lia
noncomputable def qfX:TA:=fun _ H Q=>Q [] H
noncomputable def qdj(ta:TE)(tr:TA):TA:=fun σ H Q=>ta σ H fun x H1=>tr σ H1 fun xs H2=>Q (x::xs) H2
section
variable{X:Cx}{e:Expr}{es:List Expr}{te:TE}{t:TA}{pos:Pos}
theorem zP:PA X [] qfX:=fun _ _ _ _ H Q I h=>Calls.spliced_nil ⟨[],H,I,.nil,h⟩
theorem zj(ha:PE X e te)(hr:PA X es t)(hs:starEach (e::es) X.env=(false,eval e X.env)::starEach es X.env:=by rfl):PA X (e::es) (qdj te t):=by
 intro pos pins s σ H Q I h;rw [hs];show wpAny _ _ (spliced ((false,eval e X.env)::backTo pos (starEach es X.env))) _ _ s;refine Calls.spliced_cons (thn (ha pins s σ H _ I h) fun u s1 ⟨x,H1,I1,r1,q1⟩=>?_);exact thn (hr pos pins s1 σ H1 _ I1 q1) fun us s2 ⟨xs,H2,I2,r2,q2⟩=>⟨x::xs,H2,I2,.cons r1 r2,q2⟩
noncomputable def qtY(t:TA):TE:=fun σ H Q=>t σ H fun xs H1=>xs.length≤sizeLine∧∀p,H1 p=none→Q (.ref p) (upd H1 p (.tup xs))
noncomputable def qtT(t:TA):TE:=fun σ H Q=>t σ H fun xs H1=>xs.length≤sizeLine∧∀p,H1 p=none→Q (.ref p) (upd H1 p (.lst xs))
theorem qqB{x1}(h:PA X es t):PE X (.Tuple es x1 pos) (qtY t):=by
 intro pins s σ H Q I hq;refine wpAny_Tuple_spliced (thn (h pos pins s σ H _ I hq) fun us s1 ⟨xs,H1,I1,r,z,q⟩=>⟨by rw [←r.length];exact z,?_⟩);have hf:H1 s1.heap.objs.size=none:=I1.hok.fresh (Nat.le_refl _);refine⟨.ref s1.heap.objs.size,upd H1 s1.heap.objs.size (.tup xs),I1.laid (t':=s1.toks) (fun b u e=>Heap.get?_push_of_some _ e) (Nat.le_refl _) ?_,rfl,q _ hf⟩;exact⟨z,us,r,⟨_,Heap.get?_push_size _ rfl,rfl,_,rfl⟩⟩
theorem qqd(h:PA X es t):PE X (.List es pos) (qtT t):=by
 intro pins s σ H Q I hq;refine wpAny_List_spliced (thn (h pos pins s σ H _ I hq) fun us s1 ⟨xs,H1,I1,r,z,q⟩=>⟨by rw [←r.length];exact z,?_⟩);have hf:H1 s1.heap.objs.size=none:=I1.hok.fresh (Nat.le_refl _);refine⟨.ref s1.heap.objs.size,upd H1 s1.heap.objs.size (.lst xs),I1.laid (t':=s1.toks) (fun b u e=>Heap.get?_push_of_some _ e) (Nat.le_refl _) ?_,rfl,q _ hf⟩;exact⟨z,us,0,r,Heap.get?_push_size _ rfl⟩
end
abbrev Sp:=List V→Hp→VK→XK→Prop
abbrev CXT:=List Env→Hp→Shared→XK→Value→Shared→Prop
structure qhu(P:Program)(w:World)(K:PySem.W.Frag)(mg:Str→Option Value)(base:Heap)(A:Around)(outer:List Env)(s:Shared)(H:Hp):Prop where
 frames:A.frames=some outer
 mod:Mod K mg base
 bs:∀b o,base.get? b=some o→s.heap.get? b=some o∧H b=none
 bsz:base.objs.size≤s.heap.objs.size
 funs:s.heap.FunFrames base outer
 frf:∀b∈frs outer,H b=none
 hok:HOk P w H s.heap
 bare:AllBare s.gens
noncomputable def CE(outer:List Env)(P:Program)(w:World)(H:Hp)(s:Shared)(Q:VK)(u:Value)(s':Shared):Prop:=
 ∃v H',s'.os=s.os∧AllBare s'.gens∧Un (frs outer) [] H H' s.heap s'.heap∧HOk P w H' s'.heap∧RelV v u∧Q v H'
noncomputable def CR(CX:CXT)(outer:List Env)(P:Program)(w:World)(H:Hp)(s:Shared)(Q:VK)(E:XK)(r:Result)(s':Shared):Prop:=
 match r with
 | .ok (.ret u)=>CE outer P w H s Q u s'
 | .ok _=>False
 | .error e=>CX outer H s E e s'
structure qdU(P:Program)(w:World)(K:PySem.W.Frag)(mg:Str→Option Value)(base:Heap)(CX:CXT)(k:Nat)(f:Addr)(fd:FuncData)(ps:List Str)(sp:Sp):Prop where
 len:∀vs H Q E,sp vs H Q E→vs.length=ps.length
 run:∀(A:Around) (outer:List Env) (s:Shared) (H:Hp) (args:Args) (us:List Value) (vs:List V) (Q:VK) (E:XK),qbi k A→qhu P w K mg base A outer s H→BindsTo s fd args (ps.zip us)→Vals vs us→sp vs H Q E →
  codeAny (model P w) A (.call (.ref f) args) (CR CX outer P w H s Q E) s
section
variable{X:Cx}{pins:List (Addr×Obj)}{σ:St}{H:Hp}{s s':Shared}
theorem Inv.env0(I:Inv X pins σ H s):qhu X.prog X.w X.K X.mg X.base X.A X.stack s H:=
 ⟨I.ok.frames,I.ok.mod,I.bs,Nat.le_trans I.ok.bsz I.sz,I.stack,I.stkFree,I.hok,I.bare⟩
theorem Inv.after{Q:VK}{u:Value}(I:Inv X pins σ H s)(h:CE X.stack X.prog X.w H s Q u s'):EP X pins σ Q u s':=by
 obtain⟨v,H',os,bare,un,hok,r,q⟩:=h;obtain⟨hh,g,d,t,os'⟩:=s';obtain rfl:os'=s.os:=os;exact⟨v,H',I.call (h':=hh) (g':=g) (d':=d) (t':=t) (ch:=[]) un hok bare (fun b z=>absurd z (by simp)),r,q⟩
end
noncomputable def qjw(sp:Sp)(dvs:List V)(E:XK)(t:TA):TE:=fun σ H Q=>t σ H fun vs H1=>sp (vs++dvs) H1 Q E
noncomputable def Binds(K:PySem.W.Frag)(fd:FuncData)(ps:List Str)(ds:List Value):Prop:=
 ∀(s:Shared) (us:List Value),K.In s.heap→(us++ds).length=ps.length→BindsTo s fd ⟨us,[]⟩ (ps.zip (us++ds))
theorem Binds.all{K:PySem.W.Frag}{fd:FuncData}{ps:List Str}(h:∀us:List Value,us.length=ps.length→bindArgs fd ⟨us,[]⟩=pure (ps.zip us)):Binds K fd ps []:=fun s us _ hl=>by
 rw [List.append_nil]at hl ⊢;exact .of_eq (h us hl)
noncomputable def Passes(CX:CXT)(X:Cx)(E:XK):Prop:=∀(pins:List (Addr×Obj)) (σ:St) (H:Hp) (s:Shared) (e:Value) (s':Shared),Inv X pins σ H s→CX X.stack H s E e s'→X.xe e s'
section
variable{X:Cx}{CX:CXT}{k:Nat}{f C:Addr}{fd:FuncData}{ps:List Str}{sp:Sp}{dvs:List V}{ds:List Value}{E:XK}{x m:Str}{p pos apos:Pos}{e o:Expr}{es:List Expr}{ta:TE}{t:TA}
theorem qpW{pins:List (Addr×Obj)}{σ:St}{H:Hp}{s:Shared}{Q:VK}{us:List Value}{vs:List V}(F:qdU X.prog X.w X.K X.mg X.base CX k f fd ps sp)(hr:qbi k X.A)(hb:Binds X.K fd ps ds)(hd:Vals dvs ds)(hx:Passes CX X E)
  (I:Inv X pins σ H s) (r:Vals vs us) (h:sp (vs++dvs) H Q E):wpAny (model X.prog X.w) X.A (call (.ref f) us) (EP X pins σ Q) X.xe s:=by
 have r2:Vals (vs++dvs) (us++ds):=r.append hd;have hl:(us++ds).length=ps.length:=by rw [←r2.length];exact F.len _ _ _ _ h
 refine wpAny_call (codeAny_mono (F.run X.A X.stack s H ⟨us,[]⟩ (us++ds) (vs++dvs) Q E hr I.env0 (hb s us I.kIn hl) r2 h) fun r s' hq=>?_);cases r with
 |error e=>exact hx pins σ H s e s' I hq
 |ok fl=>
  cases fl with
  |ret u=>exact I.after hq
  |next=>exact False.elim hq
  |brk=>exact False.elim hq
  |cont=>exact False.elim hq
theorem qpJ(F:qdU X.prog X.w X.K X.mg X.base CX k f fd ps sp)(hr:qbi k X.A)(hg:Gl X x)(hm:X.mg x=some (.ref f))(hk:PySem.W.keepIn X.K (.ref f)=true)(hb:Binds X.K fd ps ds)(hd:Vals dvs ds)(hx:Passes CX X E)
  (ha:PA X (e::es) t) (hdb:(x==("__debug__" : Str))=false:=by decide) (he:starEach (e::es) X.env=(false,eval e X.env)::starEach es X.env:=by rfl) (hpl:(backTo pos (starEach es X.env)).any (·.1)=false:=by rfl) :
  PE X (.Call (.Name x p) (e::es) [] pos) (qjw sp dvs E t):=by
 intro pins s σ H Q I h;refine wpAny_Call_Name_kw (qfZ I hg hm ?_ hdb);refine PySem.W.callWith_K (h₀:=X.base) I.ok.mod.kin hk (thn (ha pos pins s σ H _ I h) fun us s1 ⟨vs,H1,I1,r,q⟩=>⟨I1.kIn,?_⟩) he hpl;exact qpW F hr hb hd hx I1 r q
end
section
variable{X:Cx}{CX:CXT}{k:Nat}{f C:Addr}{fd:FuncData}{ps ks:List Str}{sp:Sp}{E:XK}{x m:Str}{p pos apos kpos:Pos}{e o:Expr}{es:List Expr}{kws:List Keyword}{te ta:TE}{t tk:TA}{nm:Option Str}
variable{g:List Value→List Value→List Value}{gV:List V→List V→List V}
end
structure qcY(N P:List Str)(sc:Scope):Prop where
 kind:sc.kind=.function
 co:sc.isCoroutine=false
 gen:sc.isGenerator=false
 nd:N.Nodup
 pre:N.take P.length=P
 par:∀x∈P,sc.names.lookup x=some .local∨sc.names.lookup x=some .cell
 nofree:∀y∈sc.names,y.2≠.free
theorem qgy{kindOf:Str→Option NameKind}{x:Str}:∀{binds:List (Str×Value)}{m:Str→Option Value},(∀v,(x,v)∉binds)→bindL kindOf binds m x=m x
 | [],_,_=>rfl
 | (n,v)::r,m,h=>by
  unfold bindL;rw [qgy fun w hw=>h w (List.mem_cons_of_mem _ hw)];split
  ·have:x≠n:=by rintro rfl;exact h v List.mem_cons_self
   simp [this]
  ·rfl
theorem qgv{kindOf:Str→Option NameKind}{x:Str}:∀{binds:List (Str×Value)}{m:Str→Option Value},(∀v,(x,v)∉binds)→bindC kindOf binds m x=m x
 | [],_,_=>rfl
 | (n,v)::r,m,h=>by
  unfold bindC;rw [qgv fun w hw=>h w (List.mem_cons_of_mem _ hw)];split
  ·rfl
  ·have:x≠n:=by rintro rfl;exact h v List.mem_cons_self
   simp [this]
theorem qgC{kindOf:Str→Option NameKind}{x:Str}{v:Value}:∀{P:List Str}{vs:List Value}{i:Nat}{m:Str→Option Value},P.Nodup→P[i]? = some x→vs[i]? = some v→kindOf x=some .local →
  bindL kindOf (P.zip vs) m x=some v
 | [],_,_,_,_,h,_,_=>by simp at h
 |_::_,[],_,_,_,_,h,_=>by simp at h
 |p::P,w::vs,0,m,nd,h1,h2,hk=>by
  simp at h1 h2;subst h1;subst h2;show bindL kindOf ((p,w)::P.zip vs) m p=_;unfold bindL;rw [qgy fun v hv=>(List.nodup_cons.mp nd).1 (List.of_mem_zip hv).1,if_pos hk];simp
 |p::P,w::vs,i+1,m,nd,h1,h2,hk=>by
  show bindL kindOf ((p,w)::P.zip vs) m x=_;unfold bindL;exact qgC (i:=i) (List.nodup_cons.mp nd).2 (by simpa using h1) (by simpa using h2) hk
theorem qgI{kindOf:Str→Option NameKind}{x:Str}{v:Value}:∀{P:List Str}{vs:List Value}{i:Nat}{m:Str→Option Value},P.Nodup→P[i]? = some x→vs[i]? = some v→kindOf x≠some .local →
  bindC kindOf (P.zip vs) m x=some v
 | [],_,_,_,_,h,_,_=>by simp at h
 |_::_,[],_,_,_,_,h,_=>by simp at h
 |p::P,w::vs,0,m,nd,h1,h2,hk=>by
  simp at h1 h2;subst h1;subst h2;show bindC kindOf ((p,w)::P.zip vs) m p=_;unfold bindC;rw [qgv fun v hv=>(List.nodup_cons.mp nd).1 (List.of_mem_zip hv).1,if_neg hk];simp
 |p::P,w::vs,i+1,m,nd,h1,h2,hk=>by
  show bindC kindOf ((p,w)::P.zip vs) m x=_;unfold bindC;exact qgI (i:=i) (List.nodup_cons.mp nd).2 (by simpa using h1) (by simpa using h2) hk
noncomputable def start(N:List Str)(vs:List V):St:=vs.map some++List.replicate (N.length-vs.length) none
noncomputable def qdy(CX:CXT)(P:Program)(w:World)(K:PySem.W.Frag)(mg:Str→Option Value)(base:Heap)(N:List Str)(qual:Str)(scope:Scope)(f:Addr)(cd:Value)(A:Around)(outer:List Env)(s:Shared)(H:Hp)(E:XK):Cx where
 prog:=P
 w:=w
 K:=K
 mg:=mg
 base:=base
 A:=A.deeper (envOfC qual scope s.heap.objs.size f cd)
 N:=N
 s₀:=s
 H₀:=H
 env:=envOfC qual scope s.heap.objs.size f cd
 outer:=outer
 stack:=envOfC qual scope s.heap.objs.size f cd::outer
 ex:=[]
 calm:=true
 fn:=fun _=>true
 pn:=[]
 xe:=fun e s'=>wpAny (model P w) (A.deeper (envOfC qual scope s.heap.objs.size f cd)) (leaving (envOfC qual scope s.heap.objs.size f cd) e) (fun _ s''=>CX outer H s E e s'') (fun e' s''=>CX outer H s E e' s'') s'
theorem qdn{sc:Scope}{n:Nat}{x:Str}(h:sc.names.lookup x=some .cell):∃c,(cellsFrom n sc.names []).lookup x=some c:=by
 have q:=PySem.W.cellsFrom_some sc.names n [] (.inl h);exact Option.isSome_iff_exists.mp q
theorem qkO{CX:CXT}{P:Program}{w:World}{K:PySem.W.Frag}{mg:Str→Option Value}{base:Heap}{N ps:List Str}{qual:Str}{scope:Scope}{f:Addr}{cd:Value}{A:Around}{outer:List Env}{s s1:Shared}{H:Hp}{E:XK}{us:List Value}{vs:List V}
  (S:qcY N ps scope) (hd:A.handled=none) (e0:qhu P w K mg base A outer s H) (hl:vs.length=ps.length) (r:Vals vs us)
  (x:InCallC s s.heap.objs.size (bindL (envOfC qual scope s.heap.objs.size f cd).kindOf (ps.zip us) fun _=>none) (cellsFrom (s.heap.objs.size+1) scope.names []) (bindC (envOfC qual scope s.heap.objs.size f cd).kindOf (ps.zip us) fun _=>none) s1) :
  Inv (qdy CX P w K mg base N qual scope f cd A outer s H E) [] (start N vs) H s1:=by
 have hpl:ps.length≤N.length:=by have:=congrArg List.length S.pre;rw [List.length_take]at this;lia
 obtain⟨h1,tk,rfl,hk⟩:=x.done;have noA:∀b:Addr,b∉(qdy CX P w K mg base N qual scope f cd A outer s H E).ex:=fun b z=>absurd (show b∈([]:List Addr)from z) (by simp)
 refine⟨⟨e0.mod,S.kind,rfl,rfl,Nat.le_refl _,fun y z c h1 h2=>?_,fun y hy=>?_,fun y c _ h=>?_,fun _=>hd,Around.frames_deeper e0.frames,.inr ⟨rfl,rfl⟩,fun b z=>absurd z (noA b),e0.bs,e0.bsz,fun b _ _=>noA b,fun b z=>absurd z (noA b),e0.funs,e0.frf⟩,
  rfl,e0.bare,Un.kept hk,⟨_,x.toInCall.ns,fun i y v h1 h2 h3=>?_⟩,fun y c h=>⟨_,x.cell y c h⟩,e0.hok.fresh (Nat.le_refl _),fun y c h=>?_,fun p hp=>absurd (show p∈([]:List (Addr×Obj))from hp) (by simp),e0.hok.kept hk,?_⟩
 ·exact name_of_addr x.apart (PySem.mem_of_lookup h1) (PySem.mem_of_lookup h2)
 ·have hy:scope.names.lookup y=some .cell∨scope.names.lookup y=some .free:=hy;rcases hy with hy|hy
  ·exact qdn hy
  ·exact absurd rfl (S.nofree _ (PySem.mem_of_lookup hy))
 ·exact Nat.le_of_lt (x.above y c (PySem.mem_of_lookup h))
 ·have hi:i<vs.length:=by
   unfold start at h2;by_cases hi:i<vs.length
   ·exact hi
   ·rw [List.getElem?_append_right (by simpa using hi)]at h2;rw [List.getElem?_replicate]at h2;split at h2<;>cases h2
  have ha:vs[i]? = some v:=by
   unfold start at h2;rw [List.getElem?_append_left (by simpa using hi),List.getElem?_map]at h2;cases e:vs[i]? with
   |none=>rw [e]at h2;cases h2
   |some a=>rw [e]at h2;cases h2;rfl
  obtain⟨u,hu,rv⟩:=r.get ha;have hp:ps[i]? = some y:=by
   rw [←S.pre,List.getElem?_take_of_lt (by lia)];exact h1
  have ndP:ps.Nodup:=by rw [←S.pre];exact S.nd.sublist (List.take_sublist _ _)
  refine⟨u,rv,?_⟩;rcases S.par y (List.mem_of_getElem? hp)with k|k
  ·exact .inl ⟨k,qgC ndP hp hu k⟩
  ·obtain⟨c,e⟩:=qdn (n:=s.heap.objs.size+1) k;refine .inr ⟨.inl k,c,e,?_⟩;have q:=x.cell y c e;rw [qgI ndP hp hu (by show scope.names.lookup y≠_;rw [k];decide)]at q;exact q
 ·exact e0.hok.fresh (Nat.le_of_lt (x.above y c (PySem.mem_of_lookup h)))
 ·unfold start;show _=N.length;rw [List.length_append,List.length_map,List.length_replicate];lia
theorem qsQ{CX:CXT}{P:Program}{w:World}{K:PySem.W.Frag}{mg:Str→Option Value}{base:Heap}{k:Nat}{f:Addr}{name qual:Str}{params:Arguments}{body:List Stmt}{scope:Scope}{dV kV doc pm cdv ct oc:Value}{an od:Option Addr}
  {osl:Array (Option Value)}{N ps:List Str}{sp:Sp} (lk:K.lookup f=some ⟨oc,od,.func (PySem.W.fnOf name qual params body scope dV kV doc pm an cdv ct),osl⟩) (hcd:PySem.W.codeIn K cdv qual=true) (S:qcY N ps scope)
  (len:∀vs H Q E,sp vs H Q E→vs.length=ps.length)
  (hbody:∀(A:Around) (outer:List Env) (s:Shared) (H:Hp) (vs:List V) (Q:VK) (E:XK),qbi k (A.deeper (envOfC qual scope s.heap.objs.size f cdv))→sp vs H Q E →
   ∃t,PSs (qdy CX P w K mg base N qual scope f cdv A outer s H E) body t∧t {nx:=fun _ H'=>Q .non H',rt:=Q} (start N vs) H) :
  qdU P w K mg base CX (k+1) f (PySem.W.fnOf name qual params body scope dV kV doc pm an cdv ct) ps sp:=by
 refine⟨len,fun A outer s H args us vs Q E hr e0 hb r hsp=>?_⟩;have hl:=len _ _ _ _ hsp;have KX:K.In s.heap:=e0.mod.kin.keeps fun b o e=>(e0.bs b o e).1
 have lim:s.heap.NoLimit:=e0.mod.nolimit.keeps fun b o e=>(e0.bs b o e).1
 have hkind:∀y∈ps.zip us,scope.names.lookup y.1=some .local∨(scope.names.lookup y.1=some .cell∧((cellsFrom (s.heap.objs.size+1) scope.names []).lookup y.1).isSome=true):=fun⟨n,v⟩ hy=>by
  rcases S.par n (List.of_mem_zip hy).1 with q|q
  ·exact .inl q
  ·exact .inr ⟨q,PySem.W.cellsFrom_some _ _ _ (.inl q)⟩
 refine codeAny_call_function hr.depth (KX _ _ lk) rfl S.co S.gen rfl (PySem.W.codeRec_of KX hcd) (hb _ _ _ _ ?_);refine wpAny_newFunctionEnv_cells S.kind hkind fun env he s1 x=>?_
 subst he;refine⟨lim.keeps x.toInCall.keep,codeAny_func ?_⟩;obtain⟨t,ht,hq⟩:=hbody A outer s H vs Q E (hr.deeper _) hsp;have I:Inv (qdy CX P w K mg base N qual scope f cdv A outer s H E) [] (start N vs) H s1:=qkO S hr.hd e0 hl r x;refine wpAny_mono (ht [] s1 (start N vs) H _ I hq) (fun fl s' hs=>?_) fun e s' hs=>hs
 have fin:∀{σ':St}{H':Hp}{v:V}{u:Value},Inv (qdy CX P w K mg base N qual scope f cdv A outer s H E) [] σ' H' s'→RelV v u→Q v H'→CE outer P w H s Q u s':=
  fun {σ' H' v u} J rv q=>⟨v,H',J.os,J.bare,J.base,J.hok,rv,q⟩
 cases fl with
 |ret u=>
  obtain⟨v,σ',H',J,rv,q⟩:=hs;exact fin J rv q
 |next=>
  obtain⟨σ',H',J,q⟩:=hs;exact fin (v:=V.non) (u:=Value.none) J rfl q
 |brk=>
  obtain⟨_,_,_,q⟩:=hs;exact False.elim q
 |cont=>
  obtain⟨_,_,_,q⟩:=hs;exact False.elim q
section
variable{X:Cx}{x:Str}{p pos:Pos}{e:Expr}{es:List Expr}{t:TA}{id T:String}{r:List V→Hp→VK→Prop}
noncomputable def tCB(r:List V→Hp→VK→Prop)(t:TA):TE:=fun σ H Q=>t σ H fun vs H1=>r vs H1 Q
theorem qeT(hc:qz X (.builtin id) r)(hg:Gl X x)(hm:X.mg x=none)(hv:bootBuiltins x=some (.builtin id))(ha:PA X (e::es) t)(hn:x≠"__name__":=by decide)(hdb:(x==("__debug__" : Str))=false:=by decide)
  (he:starEach (e::es) X.env=(false,eval e X.env)::starEach es X.env:=by rfl) (hpl:(backTo pos (starEach es X.env)).any (·.1)=false:=by rfl):PE X (.Call (.Name x p) (e::es) [] pos) (tCB r t):=by
 intro pins s σ H Q I h;refine wpAny_Call_Name_kw (qcg I hg hm hv ?_ hn hdb);exact PyProof.Rows.callWith_builtin1 (thn (ha pos pins s σ H _ I h) fun us s1 ⟨vs,H1,I1,r1,q1⟩=>hc pins s1 σ H1 vs us Q I1 r1 q1) he hpl
theorem qaK(hc:qz X (.type T) r)(hg:Gl X x)(hm:X.mg x=none)(hv:bootBuiltins x=some (.type T))(ha:PA X (e::es) t)(hn:x≠"__name__":=by decide)(hdb:(x==("__debug__" : Str))=false:=by decide)
  (he:starEach (e::es) X.env=(false,eval e X.env)::starEach es X.env:=by rfl) (hpl:(backTo pos (starEach es X.env)).any (·.1)=false:=by rfl):PE X (.Call (.Name x p) (e::es) [] pos) (tCB r t):=by
 intro pins s σ H Q I h;refine wpAny_Call_Name_kw (qcg I hg hm hv ?_ hn hdb);exact PyProof.Rows.callWith_type1 (thn (ha pos pins s σ H _ I h) fun us s1 ⟨vs,H1,I1,r1,q1⟩=>hc pins s1 σ H1 vs us Q I1 r1 q1) he hpl
end
end L2
namespace HT
open PySem PyProof.Rows
noncomputable def lexLt:List Int→List Int→Bool
 | [],[]=>false
 | [],_::_=>true
 |_::_,[]=>false
 |x::xs,y::ys=>if x=y then lexLt xs ys else decide (x<y)
theorem qeW(x y:Int)(xs ys:List Int):lexLt (x::xs) (y::ys)=if x=y then lexLt xs ys else decide (x<y):=rfl
theorem qdD:lexLt [] []=false:=rfl
theorem qdf(y:Int)(ys:List Int):lexLt [] (y::ys)=true:=rfl
theorem qcW(x:Int)(xs:List Int):lexLt (x::xs) []=false:=rfl
theorem qmx(A:Around)(s:Shared)(a:Int)(t:Tok)(c:Int)(u:Tok):∃e,SeqAt.EqAt A s (.int a t) (.int c u) e∧(e=true↔a=c):=
 ⟨(a==c),SeqAt.EqAt.int_int a t c u,by simp⟩
theorem qmM(A:Around)(s:Shared)(a:Int)(t:Tok)(c:Int)(u:Tok)(prog:Program)(w:World)(E:Value→Shared→Prop)(Q:Value→Shared→Prop)(h:Q (.bool (decide (a<c))) s) :
  wpAny (model prog w) A (richCompare .Lt (.int a t) (.int c u)) Q E s:=
 (PyProof.Rows.lt_int h:wpAny (model prog w) A (compareOp .Lt (.int a t) (.int c u)) Q E s)
section
open PySem.SeqAt
open PySem.AutoSeq1 (wpAny_loadPart')
open PySem.MeetsSeq PySem.MeetsSeq2 PySem.MeetsSeq3
theorem qdE(l b:Addr)(items items2:Array Value)(n n2:Nat)(dd dd2:Option Addr)(sl sl2:Array (Option Value))(ns ms:List Int)(hi:IntsAre items.toList ns)(hj:IntsAre items2.toList ms) :
  Meets (Builtin.«tuple.__lt__» ⟨[.ref l,.ref b],[]⟩)
   (fun _ R s=>s.heap.get? l=some {cls:=.type "tuple",dict:=dd,data:=.seq items n,slots:=sl}∧s.heap.get? b=some {cls:=.type "tuple",dict:=dd2,data:=.seq items2 n2,slots:=sl2} ∧
    R (.ok (.ret (.bool (lexLt ns ms)))) s):=
 .of_wp fun prog w A R s h=>by
  obtain⟨hp,g,d,tk,os⟩:=s;obtain⟨hl,hb,h⟩:=h;have f2:=AutoSeq1.sub_tuple_tuple;have z1:items.size=ns.length:=by rw [←hi.length];simp
  have z2:items2.size=ms.length:=by rw [←hj.length];simp
  wp_walk using wpAny_loadPart' hl,wpAny_loadPart' hb,wpAny_forIn_list _ (fun rest b s'=>b.1=none∧s'=⟨hp,g,d,tk,os⟩∧∃(vs ws:List Value) (ns' ms':List Int),rest=vs.zip ws ∧
   IntsAre vs ns'∧IntsAre ws ms'∧ns'.length+items2.size=ms'.length+items.size∧R (.ok (.ret (.bool (lexLt ns' ms')))) ⟨hp,g,d,tk,os⟩) _
  case turn=>
   rintro⟨y,x⟩ rest b s' ⟨hb',rfl,vs,ws,ns',ms',hz,hvi,hwi,hlen,hR⟩;cases hvi with
   |nil=>rw [List.zip_nil_left]at hz;cases hz
   |cons a t hvi'=>
    cases hwi with
    |nil=>rw [List.zip_nil_right]at hz;cases hz
    |cons c u hwi'=>
     rw [List.zip_cons_cons]at hz;injection hz with hyx hrest
     injection hyx with hy hx
     subst hy hx;rw [qeW]at hR;simp only [List.length_cons]at hlen;obtain⟨e,he,hiff⟩:=qmx A.in1 ⟨hp,g,d,tk,os⟩ a t c u;refine wpAny_bind (he prog w _ _ ?_);cases e with
     |true=>
      rw [if_pos (hiff.mp rfl)]at hR
      wp_walk
      exact⟨rfl,rfl,_,_,_,_,hrest,hvi',hwi',by lia,hR⟩
     |false=>
      rw [if_neg (fun q=>absurd (hiff.mpr q) Bool.false_ne_true)]at hR;have hri:=qmM A.in1 ⟨hp,g,d,tk,os⟩ a t c u prog w
      wp_walk using hri
      exact⟨_,rfl,by simpa using hR⟩
  case fin=>
   rintro⟨b1,b2⟩ s' ⟨hb',rfl,vs,ws,ns',ms',hz,hvi,hwi,hlen,hR⟩;simp only at hb';subst hb';have hv:lexLt ns' ms'=decide (items.size<items2.size):=by
    cases hvi with
    |nil=>
     cases hwi with
     |nil=>
      simp only [List.length_nil]at hlen;rw [qdD];exact(decide_eq_false (by lia)).symm
     |cons c u hw=>
      simp only [List.length_nil,List.length_cons]at hlen;rw [qdf];exact(decide_eq_true (by lia)).symm
    |cons a t hv=>
     cases hwi with
     |nil=>
      simp only [List.length_nil,List.length_cons]at hlen;rw [qcW];exact(decide_eq_false (by lia)).symm
     |cons c u hw=>
      rw [List.zip_cons_cons]at hz;cases hz
   rw [hv]at hR
   wp_walk
   exact⟨_,rfl,by simpa [Builtin.Tuple.tupleCompareSizes]using hR⟩
  case h=>
   exact⟨rfl,rfl,items.toList,items2.toList,ns,ms,rfl,hi,hj,by lia,h⟩
end
section
variable{prog:Program}{w:World}{A:Around}{E:Value→Shared→Prop}{s:Shared}
theorem qjJ{l b:Addr}{items items2:Array Value}{ns ms:List Int}{Q:Value→Shared→Prop}(hl:IsTup s.heap l items)(hb:IsTup s.heap b items2)(hi:IntsAre items.toList ns)(hj:IntsAre items2.toList ms)
  (hu:A.units<cLine) (h:Q (.bool (lexLt ns ms)) s):wpAny (model prog w) A (compareOp .Lt (.ref l) (.ref b)) Q E s:=by
 obtain⟨⟨cls,dd,data,sl⟩,ho,hc,n,hd⟩:=id hl;obtain⟨⟨cls2,dd2,data2,sl2⟩,ho2,hc2,n2,hd2⟩:=id hb;simp only at hc hd hc2 hd2;subst hc hd hc2 hd2;exact richCompare_meets_room (op:=.Lt) ⟨_,ho,rfl⟩ ⟨_,ho2,rfl⟩ PySem.F.slot_tuple_lt PySem.F.entry_tuple_lt (PySem.F.args_tuple_lt_2 _ _) (qdE l b items items2 n n2 dd dd2 sl sl2 ns ms hi hj)
  ⟨ho,ho2,show Value.bool (lexLt ns ms)≠Value.notImplemented∧Q (.bool (lexLt ns ms)) s from ⟨(fun x=>nomatch x),h⟩⟩ hu
theorem qos{t b:Addr}{vs ws:List Value}{Q:Value→Shared→Prop}(ht:IsTup s.heap t vs.toArray)(hb:IsTup s.heap b ws.toArray)(hv:vs≠[])
  (h1:ws=[]→Q (.ref t) s) (h2:ws≠[]→Q (.ref s.heap.objs.size) {s with heap:=s.heap.push {cls:=.type "tuple",data:=.seq (vs++ws).toArray}})
  (hsz:vs.length+ws.length≤sizeLine):wpAny (model prog w) A (binaryOp .Add (.ref t) (.ref b)) Q E s:=by
 obtain⟨⟨cls,dd,data,sl⟩,ho,hc,n,hd⟩:=id ht;obtain⟨⟨cls2,dd2,data2,sl2⟩,ho2,hc2,n2,hd2⟩:=id hb;simp only at hc hd hc2 hd2;subst hc hd hc2 hd2;have e:vs.toArray++ws.toArray=(vs++ws).toArray:=by simp
 by_cases hw:ws=[]
 ·exact concat_meets ⟨_,ho,rfl⟩ ⟨_,ho2,rfl⟩ noFill_tuple_add seq_tuple_add PySem.F.slot_tuple_add PySem.F.entry_tuple_add (PySem.F.args_tuple_add_2 _ _)
   (tuple_addW1 t b vs.toArray ws.toArray n n2 dd dd2 sl sl2 (by simpa using hv) (by simp [hw])) ⟨ho,ho2,h1 hw⟩
 ·refine concat_meets ⟨_,ho,rfl⟩ ⟨_,ho2,rfl⟩ noFill_tuple_add seq_tuple_add PySem.F.slot_tuple_add PySem.F.entry_tuple_add (PySem.F.args_tuple_add_2 _ _)
   (tuple_addW2 t b vs.toArray ws.toArray n n2 dd dd2 sl sl2 (by simpa using hv) (by simpa using hw) (by rw [List.size_toArray,List.size_toArray];exact hsz)) ⟨ho,ho2,?_⟩
  rw [e];exact h2 hw
noncomputable def sIx(n d:Nat):Option Int→Nat
 |none=>d
 |some v=>if v<0 then (v+(n:Int)).toNat else min v.toNat n
theorem qrl(n d:Nat)(hd:d≤n)(o:Option Int):sIx n d o≤n:=by
 cases o with
 |none=>exact hd
 |some v=>
  show (if v<0 then (v+(n:Int)).toNat else min v.toNat n)≤n;by_cases hv:v<0
  ·rw [if_pos hv];lia
  ·rw [if_neg hv];exact Nat.min_le_right _ _
theorem qjg(v:Int)(n d:Nat):(if v<0 then max (v+(n:Int)) 0 else min v (n:Int))=((sIx n d (some v):Nat):Int):=by
 show (if v<0 then max (v+(n:Int)) 0 else min v (n:Int))=(((if v<0 then (v+(n:Int)).toNat else min v.toNat n):Nat):Int)
 by_cases hv:v<0
 ·simp only [if_pos hv];lia
 ·simp only [if_neg hv];lia
theorem qjt(lo hi:Option Int)(n:Nat):Builtin.Slice.sliceAdjust lo hi 1 (n:Int)=(((sIx n 0 lo:Nat):Int),((sIx n n hi:Nat):Int)):=by
 have h1:¬ ((1:Int)<0):=by lia
 unfold Builtin.Slice.sliceAdjust;simp only [h1,if_false];refine Prod.ext ?_ ?_
 ·cases lo with
  |none=>rfl
  |some v=>exact qjg v n 0
 ·cases hi with
  |none=>rfl
  |some v=>exact qjg v n n
theorem qjE(i j:Nat):Builtin.Slice.slicePlaces (i:Int) (j:Int) 1=j-i:=by
 unfold Builtin.Slice.slicePlaces;have h1:(1:Int)>0:=by lia
 simp only [h1,if_true,Int.ediv_one];split<;>lia
theorem qfC{v:Value}{o:Option Int}{Q:Option Int→Shared→Prop}(p:IsPart v o)(h:Q o s):wpAny (model prog w) A (Builtin.Slice.slicePartIndex v) Q E s:=by
 cases p with
 |none=>exact slicePart_none h
 |int i t=>exact slicePart_int h
theorem qcs{sl:Addr}{vl vu:Value}{lo hi:Option Int}{n:Nat}{Q:Int×Int×Nat→Shared→Prop}(hs:s.heap.IsSliceOf sl vl vu .none)(pl:IsPart vl lo)(pu:IsPart vu hi)
  (h:Q (((sIx n 0 lo:Nat):Int),1,sIx n n hi-sIx n 0 lo) s):wpAny (model prog w) A (Builtin.Slice.sliceApplied (.ref sl) (pure (n:Int))) Q E s:=by
 obtain⟨os,hos,hcs,hds⟩:=id hs;unfold Builtin.Slice.sliceApplied Builtin.Slice.sliceFields;refine wpAny_bind (wpAny_bind (wpAny_field hos hds (x:=vl) rfl (wpAny_bind (wpAny_field hos hds (x:=vu) rfl (wpAny_bind (wpAny_field hos hds (x:=.none) rfl (wpAny_pure ?_)))))));refine wpAny_bind (slicePart_none ?_);show wpAny _ _ (if ((1:Int)==0)=true then _ else _) _ _ s;rw [if_neg (by decide)];refine wpAny_bind (qfC pl (wpAny_bind (qfC pu (wpAny_bind (wpAny_pure ?_)))));show wpAny _ _ (match Builtin.Slice.sliceAdjust lo hi 1 (n:Int)with|(lo,hi)=>pure (lo,(1:Int),Builtin.Slice.slicePlaces lo hi 1)) _ _ s;rw [qjt lo hi n];show wpAny _ _ (pure (((sIx n 0 lo:Nat):Int),(1:Int),Builtin.Slice.slicePlaces ((sIx n 0 lo:Nat):Int) ((sIx n n hi:Nat):Int) 1)) _ _ s;rw [qjE];exact wpAny_pure h
theorem qmI(xs:Array Value)(i k:Nat):((List.range k).filterMap fun(m:Nat)=>xs[((i:Int)+(m:Int) * 1).toNat]?).toArray=((xs.toList.drop i).take k).toArray:=by
 have e:(fun(m:Nat)=>xs[((i:Int)+(m:Int) * 1).toNat]?)=fun m=>xs[i+m]?:=by
  funext m;have:((i:Int)+(m:Int) * 1).toNat=i+m:=by lia
  rw [this]
 rw [e];have:=pick_run xs i k;rw [List.filterMap_map]at this;have e2:((fun x=>xs[x]?)∘fun x=>i+x)=fun m=>xs[i+m]?:=rfl
 rw [e2]at this;rw [this]
theorem qeq{t sl:Addr}{items:Array Value}{vl vu:Value}{lo hi:Option Int}{Q:Value→Shared→Prop}(ht:IsTup s.heap t items)(hs:s.heap.IsSliceOf sl vl vu .none)(pl:IsPart vl lo)(pu:IsPart vu hi)
  (hw:¬ (sIx items.size 0 lo=0∧sIx items.size items.size hi=items.size))
  (h:Q (.ref s.heap.objs.size) {s with heap:=s.heap.push {cls:=.type "tuple",data:=.seq ((items.toList.drop (sIx items.size 0 lo)).take (sIx items.size items.size hi-sIx items.size 0 lo)).toArray}})
  (hsz:items.size≤sizeLine):wpAny (model prog w) A (getItem (.ref t) (.ref sl)) Q E s:=by
 have htake:sizeOk (.seq ((items.toList.drop (sIx items.size 0 lo)).take (sIx items.size items.size hi-sIx items.size 0 lo)).toArray):=by
  show ((items.toList.drop (sIx items.size 0 lo)).take (sIx items.size items.size hi-sIx items.size 0 lo)).toArray.size≤sizeLine;rw [List.size_toArray,List.length_take,List.length_drop,Array.length_toList];lia
 have hj:sIx items.size items.size hi≤items.size:=qrl _ _ (Nat.le_refl _) hi;obtain⟨os,hos,hcs,hds⟩:=id hs;have hTs:s.TypeIs (.ref sl) "slice":=⟨os,hos,hcs⟩
 unfold getItem
 try with_reducible refine wpAny_holding ?_
 first|refine wpAny_bind (wpAny_pure ?_)|skip
 refine wpAny_bind (wpAny_sequenceKey ht.typeIs (by decide) ?_);refine wpAny_bind (wpAny_callSpecial?_slot (name:=Str.ofString "__getitem__") ht.typeIs PyProof.Rows.slot_tuple_getitem
  (wpAny_call_entry PyProof.Rows.slot_tuple_getitem ht.typeIs entry_tuple_getitem ?_ (args_tuple_getitem _ _)))
 show wpAny _ _ (Builtin.Tuple.tupleItemsOf (.ref t)>>=_) _ _ s;refine wpAny_bind (tupleItemsOf_ ht ?_);refine wpAny_bind (wpAny_typeOf hTs ?_);rw [if_pos (by decide)];refine wpAny_bind (qcs hs pl pu ?_);have hno:¬ ((((sIx items.size 0 lo:Nat):Int)==0&&(1:Int)==1&&(sIx items.size items.size hi-sIx items.size 0 lo)==items.size)=true):=by
  intro q;rw [Bool.and_eq_true,Bool.and_eq_true]at q;have q1:((sIx items.size 0 lo:Nat):Int)=0:=eq_of_beq q.1.1;have q2:sIx items.size items.size hi-sIx items.size 0 lo=items.size:=eq_of_beq q.2;exact hw ⟨by lia,by lia⟩
 show wpAny _ _ (if (((sIx items.size 0 lo:Nat):Int)==0&&(1:Int)==1&&(sIx items.size items.size hi-sIx items.size 0 lo)==items.size)=true then _ else _) _ _ s;rw [if_neg hno,qmI]
 first
  |exact wpAny_bind (m:=Builtin.Tuple.tupleExact _) (wpAny_newObj_type (wpAny_pure ⟨_,rfl,wpAny_pure h⟩) htake)
  |exact wpAny_bind (m:=Builtin.Tuple.tupleExact _) (wpAny_newObj_type (wpAny_bind (wpAny_pure (wpAny_pure ⟨_,rfl,wpAny_pure h⟩))) htake)
  |exact wpAny_bind (wpAny_bind (m:=Builtin.Tuple.tupleExact _) (wpAny_newObj_type (wpAny_pure (wpAny_pure ⟨_,rfl,wpAny_pure h⟩)) htake))
  |exact wpAny_bind (wpAny_bind (m:=Builtin.Tuple.tupleExact _) (wpAny_newObj_type (wpAny_pure ⟨_,rfl,wpAny_pure h⟩) htake))
end
end HT
namespace L2
open PySem PySem.Spec PyProof.Rows
abbrev TO:=St→Hp→(Option Int→Hp→Prop)→Prop
noncomputable def PO(X:Cx)(e:Option Expr)(t:TO):Prop:=
 ∀(pins:List (Addr×Obj)) (s:Shared) (σ:St) (H:Hp) (Q:Option Int→Hp→Prop),Inv X pins σ H s→t σ H Q →
  wpAny (model X.prog X.w) X.A (evalPart e X.env) (fun u s'=>∃o H',Inv X pins σ H' s'∧IsPart u o∧Q o H') X.xe s
noncomputable def qpv:TO:=fun _ H Q=>Q none H
noncomputable def qsW(t:TE):TO:=fun σ H Q=>t σ H fun x H1=>∃i,x=.int i∧Q (some i) H1
theorem intsAre_of{ns:List Int}:∀{us:List Value},Vals (ns.map V.int) us→IntsAre us ns:=by
 induction ns with
 |nil=>intro us r;rw [List.map_nil]at r;cases r;exact .nil
 |cons n ns ih=>
  intro us r;rw [List.map_cons]at r;cases r with
  |cons r1 r2=>
   obtain⟨t,e⟩:=r1;subst e;exact .cons n t (ih r2)
section
variable{X:Cx}{e:Expr}{te:TE}{lo hi:Option Expr}{tl th:TO}{pos p2:Pos}
theorem qpi:PO X none qpv:=by
 intro pins s σ H Q I h;rw [evalPart_none];exact wpAny_pure ⟨none,H,I,.none,h⟩
theorem qoN(h:PE X e te):PO X (some e) (qsW te):=by
 intro pins s σ H Q I hw;rw [evalPart_some];refine thn (h pins s σ H _ I hw) fun u s1 ⟨x,H1,I1,r1,q1⟩=>?_
 obtain⟨i,rfl,q⟩:=q1;obtain⟨t,rfl⟩:=r1;exact⟨some i,H1,I1,.int i t,q⟩
noncomputable def SlR(X:Cx)(r:V→Option Int→Option Int→Hp→VK→Prop):Prop:=
 ∀(pins:List (Addr×Obj)) (s:Shared) (σ:St) (H:Hp) (x:V) (v vl vu:Value) (lo hi:Option Int) (sl:Addr) (Q:VK),Inv X pins σ H s→RelV x v→s.heap.IsSliceOf sl vl vu .none→IsPart vl lo→IsPart vu hi→r x lo hi H Q →
  ∃T id,typeLookup (.type T) "__getitem__" = pure (some (.builtin id))∧s.TypeIs v T∧wpAny (model X.prog X.w) X.A (getItem v (.ref sl)) (EP X pins σ Q) X.xe s
noncomputable def tSl(r:V→Option Int→Option Int→Hp→VK→Prop)(te:TE)(tl th:TO):TE:=fun σ H Q=>te σ H fun x H1=>tl σ H1 fun l H2=>th σ H2 fun u H3=>r x l u H3 Q
theorem qnM{r:V→Option Int→Option Int→Hp→VK→Prop}(hr:SlR X r)(he:PE X e te)(hl:PO X lo tl)(hu:PO X hi th):PE X (.Subscript e (.Slice lo hi none p2) pos) (tSl r te tl th):=by
 intro pins s σ H Q I h;refine Subscript_ (thn (he pins s σ H _ I h) fun v s1 ⟨x,H1,I1,r1,q1⟩=>?_);refine wpAny_Slice (thn (hl pins s1 σ H1 _ I1 q1) fun vl s2 ⟨l,H2,I2,pl,q2⟩=>thn (hu pins s2 σ H2 _ I2 q2) fun vu s3 ⟨u,H3,I3,pu,q3⟩=>?_);rw [evalPart_none];refine wpAny_pure ?_;have I4:Inv X pins σ H3 {s3 with heap:=s3.heap.push {cls:=.type "slice",data:=.fields #[vl,vu,.none]}}:=I3.kept (t':=s3.toks) fun b ob q=>Heap.get?_push_of_some _ q
 obtain⟨T,id,hT,ht,hg⟩:=hr pins {s3 with heap:=s3.heap.push {cls:=.type "slice",data:=.fields #[vl,vu,.none]}} σ H3 x v vl vu l u s3.heap.objs.size Q I4 r1 (Heap.IsSliceOf.new ..) pl pu q3;show wpAny (model X.prog X.w) X.A (subscriptTail e (.Slice lo hi none p2) v (.ref s3.heap.objs.size)) (EP X pins σ Q) X.xe {s3 with heap:=s3.heap.push {cls:=.type "slice",data:=.fields #[vl,vu,.none]}};exact tail_any (ops:=[.ref s3.heap.objs.size,v]) ht hT hg (by with_unfolding_all rfl)
noncomputable def qed(xs:List V)(lo hi:Option Int):List V:=(xs.drop (HT.sIx xs.length 0 lo)).take (HT.sIx xs.length xs.length hi-HT.sIx xs.length 0 lo)
theorem qew(xs:List V)(lo hi:Option Int):(qed xs lo hi).length≤xs.length:=by
 unfold qed;rw [List.length_take,List.length_drop];lia
noncomputable def qua(K:PySem.W.Frag):V→Option Int→Option Int→Hp→VK→Prop:=fun x lo hi H Q=>∃a xs,x=.ref a∧SqT K H a xs ∧
 ¬ (HT.sIx xs.length 0 lo=0∧HT.sIx xs.length xs.length hi=xs.length)∧∀p,H p=none→Q (.ref p) (upd H p (.tup (qed xs lo hi)))
theorem qsr:SlR X (qua X.K):=by
 intro pins s σ H x v vl vu lo hi sl Q I rx hs pl pu h;obtain⟨a,xs,rfl,hx,hw,q⟩:=h;cases rx;obtain⟨its,r,ht,hz⟩:=I.tuple hx;have hlen:its.toArray.size=xs.length:=by rw [List.size_toArray];exact r.length.symm
 refine⟨"tuple",_,PyProof.Rows.slot_tuple_getitem.lookup,ht.typeIs,?_⟩;refine HT.qeq ht hs pl pu (by rw [hlen];exact hw) ?_ (by rw [hlen];exact hz);rw [hlen];refine⟨.ref s.heap.objs.size,_,I.laid (t':=s.toks) (o:=.tup (qed xs lo hi)) (fun b ob q=>Heap.get?_push_of_some _ q) (Nat.le_refl _) ?_,rfl,q _ (I.hok.fresh (Nat.le_refl _))⟩;exact⟨Nat.le_trans (qew xs lo hi) hz,_,(r.drop (HT.sIx xs.length 0 lo)).take (HT.sIx xs.length xs.length hi-HT.sIx xs.length 0 lo),IsTup.new _ _⟩
noncomputable def qun(K:PySem.W.Frag):R2:=fun x y H Q=>∃a b ns ms,x=.ref a∧y=.ref b∧SqT K H a (ns.map V.int)∧SqT K H b (ms.map V.int)∧Q (.bl (HT.lexLt ns ms)) H
theorem qsq(hu:X.A.units<cLine):OpR X (compareOp .Lt) (qun X.K):=by
 intro pins s σ H x y v u Q I rx ry h;obtain⟨a,b,ns,ms,rfl,rfl,ha,hb,q⟩:=h;cases rx;cases ry;obtain⟨its,r1,p1,_⟩:=I.tuple ha;obtain⟨its2,r2,p2,_⟩:=I.tuple hb;have i1:IntsAre its.toArray.toList ns:=intsAre_of r1;have i2:IntsAre its2.toArray.toList ms:=intsAre_of r2;exact HT.qjJ p1 p2 i1 i2 hu ⟨.bl (HT.lexLt ns ms),H,I,rfl,q⟩
noncomputable def qtI(K:PySem.W.Frag):R2:=fun x y H Q=>∃a b xs ys,x=.ref a∧y=.ref b∧SqT K H a xs∧SqT K H b ys∧xs≠[]∧xs.length+ys.length≤sizeLine ∧
 (ys=[]→Q (.ref a) H)∧(ys≠[]→∀p,H p=none→Q (.ref p) (upd H p (.tup (xs++ys))))
theorem Vals.nil_iff{xs:List V}{us:List Value}(r:Vals xs us):us=[]↔xs=[]:=by
 cases r with
 |nil=>simp
 |cons _ _=>simp
theorem qoE:OpR X (binaryOp .Add) (qtI X.K):=by
 intro pins s σ H x y v u Q I rx ry h;obtain⟨a,b,xs,ys,rfl,rfl,ha,hb,hx,hz,q1,q2⟩:=h;cases rx;cases ry;obtain⟨its,r1,p1,_⟩:=I.tuple ha;obtain⟨its2,r2,p2,_⟩:=I.tuple hb;refine HT.qos p1 p2 (fun z=>hx (r1.nil_iff.mp z)) (fun z=>⟨.ref a,H,I,rfl,q1 (r2.nil_iff.mp z)⟩) (fun z=>?_) (by rw [←r1.length,←r2.length];exact hz);refine⟨.ref s.heap.objs.size,_,I.laid (t':=s.toks) (o:=.tup (xs++ys)) (fun b ob q=>Heap.get?_push_of_some _ q) (Nat.le_refl _) ?_,rfl,q2 (fun w=>z (r2.nil_iff.mpr w)) _ (I.hok.fresh (Nat.le_refl _))⟩;exact⟨by rw [List.length_append];exact hz,_,r1.append r2,IsTup.new _ _⟩
end
noncomputable def ixN(n:Nat)(i:Int):Option Nat:=if 0≤i then (if i<n then some i.toNat else none)else if -(n:Int)≤i then some (i+n).toNat else none
noncomputable def atI{α:Type}(xs:List α)(i:Int):Option α:=(ixN xs.length i).bind fun j=>xs[j]?
theorem qiE{n:Nat}{i:Int}{j:Nat}(h:ixN n i=some j):seqIndex? i n=some j∧j<n∧-(n:Int)≤i∧i<n:=by
 unfold ixN at h;by_cases h0:0≤i
 ·rw [if_pos h0]at h;by_cases h1:i<n
  ·rw [if_pos h1]at h;have e:i.toNat=j:=Option.some.inj h;exact⟨by rw [seqIndex_of h0 h1,e],by lia,by lia,h1⟩
  ·rw [if_neg h1]at h;cases h
 ·rw [if_neg h0]at h;by_cases h1:-(n:Int)≤i
  ·rw [if_pos h1]at h;have e:(i+n).toNat=j:=Option.some.inj h;exact⟨by rw [seqIndex_neg (by lia) h1,e],by lia,h1,by lia⟩
  ·rw [if_neg h1]at h;cases h
theorem qiC{α:Type}{xs:List α}{i:Int}{v:α}(h:atI xs i=some v):∃j,seqIndex? i xs.length=some j∧xs[j]? = some v∧j<xs.length∧-(xs.length:Int)≤i∧i<xs.length:=by
 unfold atI at h;cases e:ixN xs.length i with
 |none=>rw [e]at h;cases h
 |some j=>
  rw [e]at h;obtain⟨h1,h2,h3,h4⟩:=qiE e;exact⟨j,h1,h,h2,h3,h4⟩
noncomputable def qjn(b:Expr):Prop:=∀o i,subscripted b false o i=operate [o,i] (getItem o i)
noncomputable def IxR(X:Cx)(r:R2):Prop:=
 ∀(value slice:Expr) (pins:List (Addr×Obj)) (s:Shared) (σ:St) (H:Hp) (x y:V) (v u:Value) (Q:VK),Inv X pins σ H s→RelV x v→RelV y u→r x y H Q →
  subscripted slice false v u=operate [v,u] (getItem v u)→wpAny (model X.prog X.w) X.A (subscriptTail value slice v u) (EP X pins σ Q) X.xe s
noncomputable def MtR(X:Cx)(id:String)(r:V→List V→Hp→VK→Prop):Prop:=
 ∀(pins:List (Addr×Obj)) (s:Shared) (σ:St) (H:Hp) (x:V) (xs:List V) (v:Value) (us:List Value) (Q:VK),Inv X pins σ H s→RelV x v→Vals xs us→r x xs H Q →
  wpAny (model X.prog X.w) X.A (call (.builtin id) (v::us)) (EP X pins σ Q) X.xe s
section
variable{X:Cx}{a b:Expr}{ta tb:TE}{pos:Pos}
theorem IxR.or{r r':R2}(h:IxR X r)(h':IxR X r'):IxR X (fun x y H Q=>r x y H Q∨r' x y H Q):=by
 intro value slice pins s σ H x y v u Q I rx ry q hs;rcases q with q|q
 ·exact h value slice pins s σ H x y v u Q I rx ry q hs
 ·exact h' value slice pins s σ H x y v u Q I rx ry q hs
theorem qsY{r:R2}(hr:IxR X r)(ha:PE X a ta)(hb:PE X b tb)(hs:qjn b):PE X (.Subscript a b pos) (tOp r ta tb):=by
 intro pins s σ H Q I h;exact Subscript_ (qnK ha hb I h fun v u s2 x y H2 I2 rx ry q=>hr a b pins s2 σ H2 x y v u Q I2 rx ry q (hs _ _))
noncomputable def qrS(K:PySem.W.Frag):R2:=fun x y H Q=>∃p xs i v,x=.ref p∧y=.int i∧SqL K H p xs∧atI xs i=some v∧Q v H
noncomputable def qsw(K:PySem.W.Frag):R2:=fun x y H Q=>∃p xs i v,x=.ref p∧y=.int i∧SqT K H p xs∧atI xs i=some v∧Q v H
theorem qux:IxR X (qrS X.K):=by
 intro value slice pins s σ H x y v u Q I rx ry h hs;obtain⟨p,xs,i,z,rfl,rfl,hq,he,q⟩:=h;cases rx;obtain⟨t,rfl⟩:=ry;obtain⟨its,r,pl,hz⟩:=I.list hq;obtain⟨j,h1,h2,h3,h4,h5⟩:=qiC he;obtain⟨w,ew,rw'⟩:=r.get h2;have hl:=r.length;have hn:=qdL;have fin:EP X pins σ Q w s:=⟨z,H,I,rw',q⟩
 by_cases h0:0≤i
 ·have hj:i.toNat=j:=by
   rw [seqIndex_of h0 h5]at h1;exact Option.some.inj h1
  exact item_listR pl.isList h0 (by lia) (by rw [hj];simpa using ew) fin hs
 ·have hj:(i+(its.toArray.size:Int)).toNat=j:=by
   rw [seqIndex_neg (by lia) h4]at h1;rw [List.size_toArray,←hl];exact Option.some.inj h1
  exact subscriptTail_builtinR (x:=w) pl.isList.typeIs slot_list_getitem.lookup
   (wpAny_getItem_list_neg (Q:=fun r s'=>r=w∧EP X pins σ Q r s') pl.isList (by lia) (by rw [List.size_toArray]<;>lia) (by lia) (by rw [hj];simpa using ew) ⟨rfl,fin⟩) hs
theorem qrR:IxR X (qsw X.K):=by
 intro value slice pins s σ H x y v u Q I rx ry h hs;obtain⟨p,xs,i,z,rfl,rfl,hq,he,q⟩:=h;cases rx;obtain⟨t,rfl⟩:=ry;obtain⟨its,r,pl,hz⟩:=I.tuple hq;obtain⟨j,h1,h2,h3,h4,h5⟩:=qiC he;obtain⟨w,ew,rw'⟩:=r.get h2;have hl:=r.length;have hn:=qdL;have fin:EP X pins σ Q w s:=⟨z,H,I,rw',q⟩
 exact subscriptTail_builtinR (x:=w) pl.typeIs slot_tuple_getitem.lookup
  (getItem_tuple (j:=j) (Q:=fun r s'=>r=w∧EP X pins σ Q r s') pl (by lia) (by lia) (by rw [List.size_toArray,←hl];exact h1) (by simpa using ew) ⟨rfl,fin⟩) hs
theorem qjz(its:List Value)(n j:Nat)(u:Value):Obj.mapSeq (·.setIfInBounds j u) {cls:=.type "list",data:=.seq its.toArray n}={cls:=.type "list",data:=.seq (its.set j u).toArray n}:=by
 simp [Obj.mapSeq]
theorem Inv.lst{pins:List (Addr×Obj)}{σ:St}{H:Hp}{s:Shared}{p:Addr}{xs:List V}(I:Inv X pins σ H s)(h:H p=some (.lst xs)) :
  ∃(its:List Value) (n:Nat),Vals xs its∧s.heap.get? p=some {cls:=.type "list",data:=.seq its.toArray n}∧xs.length≤sizeLine:=by
 obtain⟨z,its,n,r,e⟩:=I.hok p _ h;exact⟨its,n,r,e,z⟩
theorem Inv.lstUpd{pins:List (Addr×Obj)}{σ:St}{H:Hp}{s:Shared}{p:Addr}{xs ys:List V}{its its':List Value}{n n':Nat}{f:Obj→Obj}(I:Inv X pins σ H s)(h:H p=some (.lst xs))
  (ho:s.heap.get? p=some {cls:=.type "list",data:=.seq its.toArray n}) (hf:f {cls:=.type "list",data:=.seq its.toArray n}={cls:=.type "list",data:=.seq its'.toArray n'}) (r:Vals ys its') (hz:ys.length≤sizeLine) (t:Nat) :
  Inv X pins σ (upd H p (.lst ys)) {s with heap:=s.heap.update p f,toks:=t}:=by
 have e:(s.heap.update p f).get? p=some {cls:=.type "list",data:=.seq its'.toArray n'}:=by
  rw [Heap.get?_update_self f ho (by rw [hf]<;>rfl),hf]
 refine I.write (x:=p) (e:=p) (by rw [h];trivial) (.inl rfl) (fun b u hb q=>(Heap.get?_update_other _ _ (Ne.symm hb)).trans q) ⟨_,e⟩ ?_;exact⟨hz,its',n',r,e⟩
noncomputable def qok:V→V→V→Hp→(Hp→Prop)→Prop:=fun o i v H Q=>∃p xs k j,o=.ref p∧i=.int k∧H p=some (.lst xs)∧ixN xs.length k=some j∧Q (upd H p (.lst (xs.set j v)))
theorem set_list:qqO X qok:=by
 intro pins s σ H o i v ov iv u Q I ro ri rv h;obtain⟨p,xs,k,j,rfl,rfl,hp,hj,q⟩:=h;cases ro;obtain⟨t,rfl⟩:=ri;obtain⟨its,n,r,ho,hz⟩:=I.lst hp;obtain⟨h1,h2,h3,h4⟩:=qiE hj;have hl:=r.length;have hn:=qdL;have I':Inv X pins σ (upd H p (.lst (xs.set j v))) {s with heap:=s.heap.update p (Obj.mapSeq (·.setIfInBounds j u))}:=
  I.lstUpd hp ho (qjz its n j u) (r.set rv j) (by rw [List.length_set];exact hz) s.toks
 by_cases h0:0≤k
 ·have hk:k.toNat=j:=by
   rw [seqIndex_of h0 h4]at h1;exact Option.some.inj h1
  exact PySem.W.ki_setAt ho h0 (by lia) (by rw [List.size_toArray,←hl];exact h4) (by rw [hk];exact⟨_,I',q⟩)
 ·have hk:(k+(its.toArray.size:Int)).toNat=j:=by
   rw [seqIndex_neg (by lia) h3]at h1;rw [List.size_toArray,←hl];exact Option.some.inj h1
  exact PySem.W.ki_setBack ho (by lia) (by rw [List.size_toArray,←hl];exact h3) (by lia) (by rw [hk];exact⟨_,I',q⟩)
theorem qhU(lo hi:Option Int)(n:Nat):(sliceBounds lo hi none n).1=((HT.sIx n 0 lo:Nat):Int)∧(sliceBounds lo hi none n).2.1=((HT.sIx n n hi:Nat):Int)∧(sliceBounds lo hi none n).2.2=1:=by
 refine⟨?_,?_,rfl⟩
 ·cases lo with
  |none=>simp [sliceBounds,HT.sIx]
  |some i=>
   simp only [sliceBounds,HT.sIx,Option.getD_none,show (1:Int)>0 by decide,if_true];by_cases h:i<0
   ·simp only [h,if_true]<;>lia
   ·simp only [h,if_false]<;>lia
 ·cases hi with
  |none=>simp [sliceBounds,HT.sIx]
  |some i=>
   simp only [sliceBounds,HT.sIx,Option.getD_none,show (1:Int)>0 by decide,if_true];by_cases h:i<0
   ·simp only [h,if_true]<;>lia
   ·simp only [h,if_false]<;>lia
theorem qgS(its:List Value)(lo hi:Option Int):slicePick its.toArray lo hi none=((its.drop (HT.sIx its.length 0 lo)).take (HT.sIx its.length its.length hi-HT.sIx its.length 0 lo)).toArray:=by
 obtain⟨h1,h2,h3⟩:=qhU lo hi its.toArray.size;unfold slicePick;rw [h1,h2,h3];simp only [sliceRange_one,pick_run,List.size_toArray]<;>rfl
noncomputable def qus(K:PySem.W.Frag):V→Option Int→Option Int→Hp→VK→Prop:=fun x lo hi H Q=>∃a xs,x=.ref a∧SqL K H a xs∧∀p,H p=none→Q (.ref p) (upd H p (.lst (qed xs lo hi)))
theorem qpU:SlR X (qus X.K):=by
 intro pins s σ H x v vl vu lo hi sl Q I rx hs pl pu h;obtain⟨a,xs,rfl,hx,q⟩:=h;cases rx;obtain⟨its,r,ht,hz⟩:=I.list hx;have hlen:=r.length;refine⟨"list",_,slot_list_getitem.lookup,ht.isList.typeIs,?_⟩;refine wpAny_getItem_list_slice ht.isList hs pl pu .none (by simp) ?_ (by rw [List.size_toArray]<;>lia);rw [qgS,←hlen];refine⟨.ref s.heap.objs.size,_,I.laid (t':=s.toks) (o:=.lst (qed xs lo hi)) (fun b ob q=>Heap.get?_push_of_some _ q) (Nat.le_refl _) ?_,rfl,q _ (I.hok.fresh (Nat.le_refl _))⟩;exact⟨Nat.le_trans (qew xs lo hi) hz,_,0,(r.drop (HT.sIx xs.length 0 lo)).take (HT.sIx xs.length xs.length hi-HT.sIx xs.length 0 lo),Heap.get?_push_size _ rfl⟩
theorem qhP:qz X (.builtin "len") (fun xs H Q=>∃p ys,xs=[.ref p]∧(SqL X.K H p ys∨SqT X.K H p ys)∧Q (.int ys.length) H):=by
 intro pins s σ H xs us Q I r h;obtain⟨p,ys,rfl,hq,q⟩:=h;obtain⟨u,rfl,rx⟩:=vals1 r;cases rx;have hn:=qdL;rcases hq with hq|hq
 ·obtain⟨its,r',pl,hz⟩:=I.list hq;have hlen:=r'.length;exact Calls.call_len_list pl.isList (by simp only [List.size_toArray]<;>lia) ⟨.int ys.length,H,I.tok _,⟨s.toks+1,by rw [List.size_toArray,hlen]⟩,q⟩
 ·obtain⟨its,r',pl,hz⟩:=I.tuple hq;have hlen:=r'.length;exact len_tuple pl (by simp only [List.size_toArray]<;>lia) ⟨.int ys.length,H,I.tok _,⟨s.toks+1,by rw [List.size_toArray,hlen]⟩,q⟩
theorem qz.or{f:Value}{r r':List V→Hp→VK→Prop}(h:qz X f r)(h':qz X f r'):qz X f (fun xs H Q=>r xs H Q∨r' xs H Q):=by
 intro pins s σ H xs us Q I rs q;rcases q with q|q
 ·exact h pins s σ H xs us Q I rs q
 ·exact h' pins s σ H xs us Q I rs q
theorem qhB:qz X (.type "list") (fun xs H Q=>∃p ys,xs=[.ref p]∧(SqL X.K H p ys∨SqT X.K H p ys)∧∀l,H l=none→Q (.ref l) (upd H l (.lst ys))):=by
 intro pins s σ H xs us Q I r h;obtain⟨p,ys,rfl,hq,q⟩:=h;obtain⟨u,rfl,rx⟩:=vals1 r;cases rx;have fin:∀(its:List Value),Vals ys its→ys.length≤sizeLine→∀(h':Heap) (c':Nat),(∀b o',s.heap.get? b=some o'→h'.get? b=some o') →
   h'.get? s.heap.objs.size=some {cls:=.type "list",dict:=none,data:=.seq its.toArray c',slots:=#[]}→EP X pins σ Q (.ref s.heap.objs.size) {s with heap:=h'}:=fun its r' hz h' c' kp e=>
  ⟨.ref s.heap.objs.size,_,I.laid (t':=s.toks) kp (Nat.le_refl _) (show zM X.prog X.w _ h' _ (.lst ys)from ⟨hz,its,c',r',e⟩),rfl,q _ (I.hok.fresh (Nat.le_refl _))⟩
 rcases hq with hq|hq
 ·obtain⟨its,r',pl,hz⟩:=I.list hq;have hlen:=r'.length;obtain⟨o,ho,hc,n,hd⟩:=pl.isList;exact call_list_seq p (.inl rfl) ho hc hd (fun h' c' kp e=>fin its r' hz h' c' kp e) (by simp only [List.size_toArray]<;>lia)
 ·obtain⟨its,r',pl,hz⟩:=I.tuple hq;have hlen:=r'.length;obtain⟨o,ho,hc,n,hd⟩:=pl;exact call_list_seq p (.inr rfl) ho hc hd (fun h' c' kp e=>fin its r' hz h' c' kp e) (by simp only [List.size_toArray]<;>lia)
theorem qgP:qz X (.type "tuple") (fun xs H Q=>∃p ys,xs=[.ref p]∧((SqL X.K H p ys∧∀l,H l=none→Q (.ref l) (upd H l (.tup ys)))∨(SqT X.K H p ys∧Q (.ref p) H))):=by
 intro pins s σ H xs us Q I r h;obtain⟨p,ys,rfl,h⟩:=h;obtain⟨u,rfl,rx⟩:=vals1 r;cases rx;rcases h with ⟨hq,q⟩|⟨hq,q⟩
 ·obtain⟨its,r',pl,hz⟩:=I.list hq;have hlen:=r'.length;refine call_tuple_list pl.isList (fun h' kp=>?_) (by simp only [List.size_toArray]<;>lia);have I1:Inv X pins σ H {s with heap:=h'}:=I.kept (t':=s.toks) kp;have I2:Inv X pins σ (upd H h'.objs.size (.tup ys)) {s with heap:=h'.push {cls:=.type "tuple",data:=.seq its.toArray}}:=
   I1.laid (t':=s.toks) (fun b o e=>Heap.get?_push_of_some _ e) (Nat.le_refl _) (show zM X.prog X.w _ _ _ (.tup ys)from ⟨hz,its,r',IsTup.new _ _⟩)
  exact⟨.ref h'.objs.size,_,I2,rfl,q _ (I1.hok.fresh (Nat.le_refl _))⟩
 ·obtain⟨its,r',pl,hz⟩:=I.tuple hq;exact call_tuple_same pl ⟨.ref p,H,I,rfl,q⟩
noncomputable def tyV(K:PySem.W.Frag)(T:String)(x:V)(H:Hp):Prop:=match x with
 | .str _=>T = "str"
 | .int _=>T = "int"
 | .ref p=>(T = "list"∧∃xs,SqL K H p xs)∨(T = "tuple"∧∃o,K.lookup p=some o∧o.cls=.type "tuple"∧o.dict=none) ∨
   (T = "dict"∧((∃kvs,H p=some (.dK kvs))∨∃kvs,H p=some (.dT kvs)))∨(T = "set"∧∃S n,H p=some (.set S n))
 |_=>False
theorem qrM{pins:List (Addr×Obj)}{σ:St}{H:Hp}{s:Shared}{T:String}{x:V}{v:Value}(I:Inv X pins σ H s)(r:RelV x v)(ty:tyV X.K T x H) :
  s.TypeIs v T∧∀a,v=.ref a→∃ob,s.heap.get? a=some ob∧ob.dict=none:=by
 cases x with
 |str z=>
  obtain⟨t,rfl⟩:=r;cases (show T = "str" from ty);exact⟨typeIs_str s z t,fun _ e=>nomatch e⟩
 |int i=>
  obtain⟨t,rfl⟩:=r;cases (show T = "int" from ty);exact⟨typeIs_int s i t,fun _ e=>nomatch e⟩
 |ref p=>
  cases r;rcases ty with ⟨rfl,xs,hq⟩|⟨rfl,o,hk,hc,hd⟩|⟨rfl,hk⟩|⟨rfl,S,n,hk⟩
  ·obtain⟨its,_,pl,_⟩:=I.list hq;refine⟨pl.isList.typeIs,fun a e=>?_⟩;cases e;obtain⟨o,n,e,c,hd,_⟩:=pl;exact⟨o,e,hd⟩
  ·refine⟨⟨o,I.kIn p o hk,hc⟩,fun a e=>?_⟩;cases e;exact⟨o,I.kIn _ o hk,hd⟩
  ·have z:∃o,s.heap.get? p=some o∧o.ExactDict:=by
    rcases hk with ⟨kvs,hk⟩|⟨kvs,hk⟩
    ·obtain⟨_,_,_,_,o,_,_,e,ex,_⟩:=I.hok p _ hk;exact⟨o,e,ex⟩
    ·obtain⟨_,_,_,_,o,_,_,e,ex,_⟩:=I.hok p _ hk;exact⟨o,e,ex⟩
   obtain⟨o,e,ex⟩:=z;refine⟨⟨o,e,ex.1⟩,fun a e2=>?_⟩;cases e2;exact⟨o,e,ex.2.1⟩
  ·obtain⟨o,_,_,_,e,ex,_⟩:=I.hok p _ hk;refine⟨⟨o,e,ex.1⟩,fun a e2=>?_⟩;cases e2;exact⟨o,e,ex.2.1⟩
 |_=>exact False.elim ty
noncomputable def tBM(K:PySem.W.Frag)(T:String)(r:V→List V→Hp→VK→Prop)(to:TE)(t:TA):TE:=fun σ H Q=>to σ H fun x H1=>tyV K T x H1∧t σ H1 fun xs H2=>r x xs H2 Q
variable{o e:Expr}{es:List Expr}{to:TE}{t:TA}{name:Str}{apos cpos:Pos}{T id:String}{r:V→List V→Hp→VK→Prop}
theorem qtJ(pa:PlainAttrs T)(slot:Slot T name id)(hty:typeOf (.builtin id)=pure (.type "method_descriptor"))(hm:MtR X id r)(ho:PE X o to)(ha:PA X (e::es) t)
  (hbase:attributeBase o name X.env (eval o X.env)=eval o X.env:=by rfl)
  (hfew:((backTo cpos (starEach (e::es) X.env)).all (fun x=>!x.1)&&(backToKw cpos (keywordEach [] X.env)).all (fun x=>x.1.isSome)
   && decide ((e::es).length+([]:List Keyword).length+(if ([]:List Keyword).isEmpty then 0 else 1)<30))=true:=by rfl)
  (hline:(apos.endLine==cpos.line)=true:=by rfl) (hs:starEach (e::es) X.env=(false,eval e X.env)::starEach es X.env:=by rfl) (hplain:(backTo cpos (starEach es X.env)).any (·.1)=false:=by rfl) :
  PE X (.Call (.Attribute o name apos) (e::es) [] cpos) (tBM X.K T r to t):=by
 intro pins s σ H Q I h;refine wpAny_Call_method_late hbase hfew hline rfl (thn (ho pins s σ H _ I h) fun v s1 ⟨x,H1,I1,r1,ty,q1⟩=>?_);obtain⟨h1,h2⟩:=qrM I1 r1 ty;refine⟨T,id,pa,slot,hty,h1,h2,?_⟩;have hA:=ha cpos pins s1 σ H1 _ I1 q1;rw [hs]at hA ⊢;refine Calls.callWith_builtin (by show (false||(backTo cpos (starEach es X.env)).any (·.1))=false;rw [hplain]<;>rfl) (Calls.evalArgs_plain ?_);exact thn hA fun us s2 ⟨vs,H2,I2,r2,q2⟩=>hm pins s2 σ H2 x vs v us Q I2 r1 r2 q2
/- xs.append(e), list.index on a module's tuple .. are MtR facts of 06m -/
end
noncomputable def MtM(X:Cx)(id:String)(r:V→List V→Hp→VK→Prop):Prop:=
 ∀(pins:List (Addr×Obj)) (s:Shared) (σ:St) (H:Hp) (x:V) (xs:List V) (v:Value) (us:List Value) (Q:VK),Inv X pins σ H s→RelV x v→Vals xs us→r x xs H Q →
  wpAny (model X.prog X.w) X.A (call (.builtin id) (v::us)) (EP X pins σ Q) X.xe s
theorem Vals.one{x:V}{us:List Value}(h:Vals [x] us):∃u,us=[u]∧RelV x u:=by
 cases h with
 |cons r h=>cases h;exact⟨_,rfl,r⟩
theorem Vals.two{x y:V}{us:List Value}(h:Vals [x,y] us):∃u v,us=[u,v]∧RelV x u∧RelV y v:=by
 cases h with
 |cons r h=>cases h with
  |cons q h=>cases h;exact⟨_,_,rfl,r,q⟩
theorem Vals.zero:∀{us:List Value},Vals [] us→us=[]
 |_,.nil=>rfl
section
variable{X:Cx}{pins:List (Addr×Obj)}{σ:St}{H:Hp}{s:Shared}{l b:Addr}{xs ys zs:List V}
theorem Inv.lset{its its':List Value}{n:Nat}{f:Array Value→Array Value}{t':Nat}(I:Inv X pins σ H s)(hH:H l=some (.lst xs))
  (e:s.heap.get? l=some {cls:=.type "list",data:=.seq its.toArray n}) (hf:f its.toArray=its'.toArray) (hv:Vals ys its') (hz:ys.length≤sizeLine) :
  Inv X pins σ (upd H l (.lst ys)) {s with heap:=s.heap.update l (Obj.mapSeq f),toks:=t'}:=by
 have q:=PySem.IsL.update e f;rw [hf]at q;refine I.write (x:=l) (e:=l) (by rw [hH];exact trivial) (.inl rfl) (fun b' u hb hu=>(Heap.get?_update_other s.heap (Obj.mapSeq f) (Ne.symm hb)).trans hu) ⟨_,q⟩ ?_;exact⟨hz,its',_,hv,q⟩
theorem Inv.lnew{its:List Value}{t':Nat}(I:Inv X pins σ H s)(hv:Vals ys its)(hz:ys.length≤sizeLine) :
  Inv X pins σ (upd H s.heap.objs.size (.lst ys)) {s with heap:=s.heap.push {cls:=.type "list",data:=.seq its.toArray},toks:=t'}:=
 I.laid (fun _ _ q=>Heap.get?_push_of_some _ q) (Nat.le_refl _) ⟨hz,its,0,hv,Heap.get?_push_size _ rfl⟩
theorem Inv.fresh(I:Inv X pins σ H s):H s.heap.objs.size=none:=I.hok.fresh (Nat.le_refl _)
theorem Inv.lstM(I:Inv X pins σ H s)(hH:H l=some (.lst xs)):xs.length≤sizeLine∧∃(its:List Value) (n:Nat),Vals xs its∧xs.length=its.length∧s.heap.get? l=some {cls:=.type "list",data:=.seq its.toArray n}:=by
 obtain⟨z,its,n,r,e⟩:=I.hok l _ hH;exact⟨z,its,n,r,r.length,e⟩
end
section
variable{X:Cx}
noncomputable def qpx:V→List V→Hp→VK→Prop:=fun x vs H Q=>∃l xs y,x=.ref l∧vs=[y]∧H l=some (.lst xs)∧xs.length<sizeLine∧Q .non (upd H l (.lst (xs++[y])))
theorem qgs:MtM X "list.append" qpx:=by
 intro pins s σ H x vs v us Q I rx rv h;obtain⟨l,xs,y,rfl,rfl,hH,hz,q⟩:=h;cases rx;obtain⟨u,rfl,ru⟩:=rv.one;obtain⟨z,its,n,r,hl,e⟩:=I.lstM hH;refine call_meets F.slot_list_append ⟨_,e,rfl⟩ F.entry_list_append (F.args_list_append_2 _ _) (PySem.list_append l its.toArray n u (by rw [List.size_toArray];lia)) ⟨e,?_⟩;refine⟨.non,_,I.lset (its':=its++[u]) hH e (by simp) (r.append (.cons ru .nil)) ?_,rfl,q⟩;rw [List.length_append,List.length_singleton];lia
end
section
variable{prog:Program}{w:World}{A:Around}{E:Value→Shared→Prop}{s:Shared}
set_option maxRecDepth 100000 in
end
section
variable{X:Cx}
end
end L2
namespace Att
open PySem PySem.W PySem.Calls PyProof.Rows
theorem qft{P:Params}{h:Heap}:∀(ns:List Int) (vs:List Value),WellAll P h vs (ns.map WData.int)→IntsAre vs ns:=by
 intro ns
 induction ns with
 |nil=>
  intro vs w;rw [List.map_nil]at w;cases w;exact .nil
 |cons n ns ih=>
  intro vs w;rw [List.map_cons]at w;cases w with
  |cons a b=>
   cases a;exact .cons _ _ (ih _ b)
theorem qlg{l:OpenLaw}{n:Nat}(hn:l.most=some n){P:Params}{h:Heap}{args:List WData}{vals:List Value}
  (hpre:l.row.toRowW.claim.pre args=true) (hwl:WellAll P h vals args) :
  ∃a vs ns,vals=[Value.ref a]∧args=[WData.list (ns.map WData.int)]∧h.get? a=some {cls:=.type "list",data:=.seq vs.toArray}∧IntsAre vs ns∧ns.length≤n:=by
 have hsh:WShape.hasAll [] args [.list .int]=true:=(pre_splitW hpre).1;have hc:l.pre.holds [] {args:=args}=true:=(pre_splitW hpre).2;obtain⟨d,r,rfl,h1,h2⟩:=hasAllW_cons hsh;obtain rfl:=hasAllW_nil h2;obtain⟨xs,rfl,h3⟩:=hasW_list h1;obtain⟨ns,rfl⟩:=items_int h3;have hlen:ns.length≤n:=by
  unfold OpenLaw.pre at hc;have h4:(WTm.not (.lt (.lit (.int (n:Int))) (.len (.arg 0)))).holds [] {args:=[.list (ns.map .int)]}=true:=by
   have h4:=(holds_andW hc).1;rw [hn]at h4;exact h4
  have h5:=condW_of h4 (w_not (w_lt w_lit (w_len_list (w_arg rfl))));rw [List.length_map]at h5;refine Nat.le_of_not_lt fun q=>?_
  have q':(n:Int)<((ns.length:Nat):Int):=by lia
  first
   | (rw [decide_eq_true q']at h5;exact absurd h5 (by decide))
   | (simp at h5;lia)
 cases hwl with
 |cons w1 w2=>
  cases w2;cases w1 with
  |list ho hall=>exact⟨_,_,ns,rfl,rfl,ho,qft ns _ hall,hlen⟩
theorem qmj(l:OpenLaw)(args:List WData):l.row.toRowW.claim.post args (.bool true) args=true:=
 postW_of (r:=l.row.toRowW) (X:=(true==true))
  (show WShape.has [] (.bool true) .bool=true by first|rfl|decide|simp [WShape.has,WShape.arms,WShape.armsAll])
  (show (WTm.eq .res (.lit (.bool true))).value [] {args:=args,res:=some (.bool true),after:=args}=some (.bool (true==true))from w_eq_bool (w_res rfl) w_lit) rfl
theorem qih{l:OpenLaw}{n:Nat}{q:Program}{loose:List Str}{XP:(Str→Option Value)→Heap→Prop}{YP:World→Heap→Prop}{d:DefRec}
  (hn:l.most=some n) (hdf:d.params.defaults=[])
  (call:∀(w:World) (s₀ s₁:Shared) (mg mb:Str→Option Value) (fa:Addr) (o:Obj) (pm cd doc:Value) (a:Addr) (vs:List Value) (ns:List Int),
   Ground q loose [] XP w s₀ mg mb s₁.heap→YP w s₁.heap →
   s₁.heap.get? fa=some o→o.data=.func (docDef d.name d.params d.body d.scope pm cd doc)→s₁.heap.CodeRec cd d.name→mg d.name=some (.ref fa) →
   s₁.heap.get? a=some {cls:=.type "list",data:=.seq vs.toArray}→IntsAre vs ns→ns.length≤n→s₁.gens = #[] →
   codeAny (model l.prog w) callerA (.call (.ref fa) ⟨[.ref a],[]⟩) (fun r s'=>r=.ok (.ret (.bool true))∧OldK s₁.heap s'.heap∧s'.os=s₁.os∧AllBare s'.gens) s₁) :
  WalkO q loose XP YP l.row.toRowW d [] (fun f vs=>PySem.call f vs):=by
 intro w s₀ s₁ mg mb G Y fa o pm cd doc dV kV ho hd hcd hD hmg hg args vals as hpre hlay hrd hwl hlo;obtain rfl:dV=.none:=Dflts.none hD hdf;obtain rfl:kV=.none:=Dflts.noKw hD;obtain⟨a,vs,ns,rfl,rfl,hobj,hints,hlen⟩:=qlg hn hpre hwl;refine enter_call (codeAny_mono (call w s₀ s₁ mg mb fa o pm cd doc a vs ns G Y ho (fd_plain hd) hcd hmg hobj hints hlen hg) fun r s' hq=>?_);obtain⟨rfl,h2,h3,h4⟩:=hq;exact⟨.inl ⟨.bool true,.bool true,[],rfl,fun _=>rfl,.bool true,qmj l _,fun _=>⟨List.Pairwise.nil,fun _ hm=>(nomatch hm)⟩⟩,h2,h3,h4⟩
section
variable{prog:Program}{w:World}{A:Around}{E:Value→Shared→Prop}{s:Shared}{K:Frag}
end
end Att
namespace L2
open PySem PySem.Spec PyProof.Rows
theorem qgn:∀{vs:List Value}{ns:List Int},IntsAre vs ns→Vals (ns.map V.int) vs
 |_,_,.nil=>.nil
 |_,_,.cons n t h=>.cons ⟨t,rfl⟩ (qgn h)
noncomputable def qnD(H:Hp):Prop:=∀b,H b=none∨∃o xs,H b=some (.frz o (.lst xs))
theorem qmw{P:Program}{w:World}{K:PySem.W.Frag}{mg mb:Str→Option Value}{CX:CXT}{k:Nat}{fa a:Addr}{fd:FuncData}{x:Str}{sp:Sp}{s₁:Shared}{vs:List Value}{ns:List Int}
  (KX:K.In s₁.heap) (hns:s₁.heap.Ns mainGlobals mg) (hb:s₁.heap.Ns builtinsNs mb) (hbb:∀x:Str,x≠"__name__"→mb x=bootBuiltins x) (hlim:s₁.heap.NoLimit) (hg:s₁.gens = #[])
  (ha:s₁.heap.get? a=some {cls:=.type "list",data:=.seq vs.toArray}) (hi:IntsAre vs ns) (hl:ns.length≤sizeLine) (hr:qbi k callerA)
  (F:∀base:Heap,K.In base→base.Ns mainGlobals mg→qdU P w K mg base CX k fa fd [x] sp) (hbind:∀(s:Shared) (u:Value),BindsTo s fd ⟨[u],[]⟩ [(x,u)])
  (hsp:∀H:Hp,qnD H→SqL K H a (ns.map V.int)→sp [.ref a] H (fun v _=>v=.bl true) fun _ _ _=>False)
  (hCX:∀H e s',CX [] H s₁ (fun _ _ _=>False) e s'→False) :
  codeAny (model P w) callerA (.call (.ref fa) ⟨[.ref a],[]⟩) (fun r s'=>r=.ok (.ret (.bool true))∧OldK s₁.heap s'.heap∧s'.os=s₁.os∧AllBare s'.gens) s₁:=by
 have rv:=qgn hi;have lenV:=hi.length
 -- from an abstract heap in which nothing but the script may be tracked
 have core:∀H:Hp,qnD H→SqL K H a (ns.map V.int)→HOk P w H s₁.heap→(∀b,H b≠none→b=a)→(H a≠none→K.lookup a=none) →
   codeAny (model P w) callerA (.call (.ref fa) ⟨[.ref a],[]⟩) (fun r s'=>r=.ok (.ret (.bool true))∧OldK s₁.heap s'.heap∧s'.os=s₁.os∧AllBare s'.gens) s₁:=by
  intro H hO hS hok hA hK;have base_of:∀{b:Addr}{o:Obj},s₁.heap.get? b=some o→H b=none→(qdh s₁.heap H).get? b=some o:=fun e n=>qmG e n
  have noA:∀{b:Addr}{o:Obj}{es:Array DictEntry}{ep:Nat},s₁.heap.get? b=some o→o.data=.dict es ep→H b=none:=fun {b o es ep} e d=>by
   cases q:H b with
   |none=>rfl
   |some u=>
    have e':b=a:=hA b (by rw [q];simp);subst e';rw [ha]at e;cases e;have d':Data.seq vs.toArray _=Data.dict es ep:=d;cases d'
  have nsK:∀{b:Addr}{m:Str→Option Value},s₁.heap.Ns b m→(qdh s₁.heap H).Ns b m:=fun {b m} ⟨o,es,ep,e,d,r⟩=>⟨o,es,ep,base_of e (noA e d),d,r⟩
  have hKb:K.In (qdh s₁.heap H):=fun b o e=>base_of (KX b o e) (by
   cases q:H b with
   |none=>rfl
   |some u=>
    have e':b=a:=hA b (by rw [q];simp);subst e';rw [hK (by rw [q];simp)]at e;cases e)
  have hM:Mod K mg (qdh s₁.heap H):=⟨hKb,nsK hns,⟨mb,nsK hb,hbb⟩,let ⟨mc,h1,h2⟩:=hlim;⟨mc,nsK h1,h2⟩⟩
  have e0:qhu P w K mg (qdh s₁.heap H) callerA [] s₁ H:=⟨rfl,hM,fun b o e=>qoT e,Nat.le_of_eq (qkI _ _),trivial,fun b hb=>absurd (show b∈([]:List Addr)from hb) (by simp),hok,.of_eq hg⟩
  refine codeAny_mono ((F _ hKb (nsK hns)).run callerA [] s₁ H ⟨[.ref a],[]⟩ [.ref a] [.ref a] _ _ hr e0 (hbind s₁ (.ref a)) (.cons rfl .nil) (hsp H hO hS)) fun r s' h=>?_
  cases r with
  |error e=>exact(hCX H e s' h).elim
  |ok fl=>
   cases fl with
   |next=>exact False.elim h
   |brk=>exact False.elim h
   |cont=>exact False.elim h
   |ret u=>
    obtain⟨v,H',os,bare,un,hok',r',q⟩:=h;have q':v=.bl true:=q;subst q';obtain rfl:u=Value.bool true:=r';refine⟨rfl,OldK.of_keep fun b o e=>?_,os,bare⟩;cases q:H b with
    |none=>exact un.keep b o e q (by intro z;exact absurd (show b∈([]:List Addr)from z) (by simp)) (by simp)
    |some u=>
     rcases hO b with z|⟨ob,xs,z⟩
     ·rw [q]at z;cases z
     ·have z2:=un.frzs b ob _ z;obtain⟨e1,_⟩:=hok b _ z;obtain⟨e2,_⟩:=hok' b _ z2;rw [e]at e1;cases e1;exact e2
 cases hk:K.lookup a with
 |some o=>
  -- the script is one of the module's own objects
  have e:=KX a o hk;rw [ha]at e;cases e;refine core (fun _=>none) (fun _=>.inl rfl) (.inr ⟨_,vs.toArray,_,hk,rfl,rfl,rfl,by rw [List.size_toArray,lenV];exact hl,by simpa using rv⟩) (fun b u z=>by have z':(none:Option HO)=some u:=z;cases z') (fun b z=>absurd rfl z) fun z=>absurd rfl z
 |none=>
  refine core (fun b=>if b=a then some (.frz {cls:=.type "list",data:=.seq vs.toArray} (.lst (ns.map V.int)))else none) (fun b=>?_) (.inl (.inr ⟨{cls:=.type "list",data:=.seq vs.toArray},if_pos rfl⟩)) (fun b u z=>?_) (fun b z=>?_) fun _=>hk
  ·by_cases hb:b=a
   ·exact .inr ⟨_,_,if_pos hb⟩
   ·exact .inl (if_neg hb)
  ·by_cases hb:b=a
   ·have z':=(if_pos hb).symm.trans z;cases z';subst hb;exact⟨ha,by rw [List.length_map];exact hl,vs,_,rv,ha⟩
   ·have z':=(if_neg hb).symm.trans z;cases z'
  ·by_cases hb:b=a
   ·exact hb
   ·exact absurd (if_neg hb) z
theorem qoO{l:PySem.W.OpenLaw}{n k:Nat}{q:Program}{loose:List Str}{XP:(Str→Option Value)→Heap→Prop}{YP:World→Heap→Prop}{d:DefRec}{K:Params→PySem.W.Frag}{CX:World→CXT}{sp:World→Sp}{x:Str}
  (hn:l.most=some n) (hn2:n≤sizeLine) (hdf:d.params.defaults=[]) (hr:qbi k callerA)
  (hY:∀(w:World) (h:Heap),YP w h→(K w.params).In h)
  (F:∀(w:World) (mg:Str→Option Value) (fa:Addr) (h:Heap),(K w.params).In h→h.Ns mainGlobals mg→mg d.name=some (.ref fa) →
   ∃fd:FuncData,(∀(s:Shared) (u:Value),BindsTo s fd ⟨[u],[]⟩ [(x,u)]) ∧
    ∀base:Heap,(K w.params).In base→base.Ns mainGlobals mg→qdU l.prog w (K w.params) mg base (CX w) k fa fd [x] (sp w))
  (hsp:∀(w:World) (H:Hp) (a:Addr) (ns:List Int),ns.length≤n→qnD H→SqL (K w.params) H a (ns.map V.int)→sp w [.ref a] H (fun v _=>v=.bl true) fun _ _ _=>False)
  (hCX:∀(w:World) (H:Hp) (s:Shared) (e:Value) (s':Shared),CX w [] H s (fun _ _ _=>False) e s'→False) :
  PySem.W.WalkO q loose XP YP l.row.toRowW d [] (fun f vs=>PySem.call f vs):=by
 refine Att.qih hn hdf fun w s₀ s₁ mg mb fa o pm cd doc a vs ns G Y ho hd hcd hmg hobj hints hlen hg=>?_
 have KX:=hY w _ Y;obtain⟨fd,hb,hF⟩:=F w mg fa _ KX G.T.g hmg;exact qmw KX G.T.g G.T.b G.T.builtins G.T.nolimit hg hobj hints (Nat.le_trans hlen hn2) hr hF hb (fun H hO hS=>hsp w H a ns hlen hO hS) fun H e s'=>hCX w H s₁ e s'
end L2
/- THE LAST THEOREM (shape; LID, My.* are yours):
   My.Adr: a structure of the addresses that your layer names (classes, functions); My.Txt K t: a structure (Prop) of the equations over K;
   My.txt_mk : {K} {implicit addresses ..} (e1 : nsIn K mainGlobals "law" = some (some (.ref f))) (e2 : K.lookup f = some ⟨oc, od, .func (fnOf "law" "law" params body scope dV kV doc pm an cdv ct), sl⟩) (e3 : codeIn K cdv "law" = true) .. : ∃ t, My.Txt K t
set_option maxRecDepth 100000 in
set_option maxHeartbeats 0 in
theorem PySem.Challenge.cw_LID_holds : PySem.Challenge.rw_LID.Holds := by
 w_on; o_law; k_head; (case hw => w_witness2)
 k_fill
 refine L2.walk_of (l := PySem.Challenge.rw_LID) (n := 63) (k := 40) (x := "script") (CX := fun w => ..) (sp := fun _ => My.sp_law) rfl (by decide) rfl ⟨rfl, by decide, by decide⟩ (fun w h Y => PySem.W.kIn_of Y) ?F ?S ?C
 case F =>
  intro w mg fa h KX G hmg;have T : ∃ t, My.Txt (L2.KOf KX) t := by
   dsimp only [L2.KOf]                          -- K must stand as «<heap const> w.params» for k_is
   refine' My.txt_mk ?e1 ?e2 ?e3 ..
   (case e1 => PySem.W.k_is)                    -- in the order: a name -> its address -> its object -> its parts
   (case e2 => PySem.W.k_is)
   ..
  obtain ⟨t, T⟩ := T;have e0 := hmg.symm.trans (PySem.W.mg_of KX G T.law);cases e0                                       -- fa is the law's own address
  exact ⟨_, fun s u => .of_eq rfl, fun base kb nb => My.law_fn T kb nb⟩     -- if «.of_eq rfl» comes too early: refine' ⟨_, ?b, fun base kb nb => My.law_fn T kb nb⟩; exact fun s u => .of_eq rfl
 case S => exact fun w H a ns hl hO hS => ..
 case C => exact ..
(the tactic k_is has no namespace: write k_is) -/
namespace L2
open PySem PySem.Spec PyProof.Rows
noncomputable def zm(s:Stmt):Arguments:=match s with
 | .FunctionDef _ a _ _ _ _ _ _ _ _=>a
 |_=>{posonlyargs:=[],args:=[],vararg:=none,kwonlyargs:=[],kw_defaults:=[],kwarg:=none,defaults:=[]}
noncomputable def qao(s:Stmt):List Stmt:=match s with
 | .FunctionDef _ _ b _ _ _ _ _ _ _=>b
 |_=>[]
noncomputable def zk(s:Stmt):Scope:=match s with
 | .FunctionDef _ _ _ _ _ _ sc _ _ _=>sc
 |_=>{kind:=.function,names:=[],isGenerator:=false,isCoroutine:=false}
abbrev E0:XK:=fun _ _ _=>False
structure Fun(K:PySem.W.Frag)(x qual:Str)(st:Stmt)(f:Addr)(fd:FuncData):Prop where
 ex:∃(oc:Value) (od:Option Addr) (kV doc pm:Value) (an:Option Addr) (cdv ct:Value) (osl:Array (Option Value)),
  fd=PySem.W.fnOf x qual (zm st) (qao st) (zk st) .none kV doc pm an cdv ct∧K.lookup f=some ⟨oc,od,.func fd,osl⟩∧PySem.W.codeIn K cdv qual=true
 kp:PySem.W.keepIn K (.ref f)=true
section
variable{P:Program}{w:World}{K:PySem.W.Frag}{mg:Str→Option Value}{base:Heap}
theorem Fun.binds{x qual:Str}{st:Stmt}{f:Addr}{fd:FuncData}{ps:List Str}(F:Fun K x qual st f fd)
  (h:∀(kV doc pm:Value) (an:Option Addr) (cdv ct:Value) (us:List Value),us.length=ps.length→bindArgs (PySem.W.fnOf x qual (zm st) (qao st) (zk st) .none kV doc pm an cdv ct) ⟨us,[]⟩=pure (ps.zip us)):Binds K fd ps []:=by
 obtain⟨oc,od,kV,doc,pm,an,cdv,ct,osl,rfl,lk,hcd⟩:=F.ex;exact .all (h kV doc pm an cdv ct)
theorem qlP{x qual:Str}{st:Stmt}{f:Addr}{oc:Value}{od an:Option Addr}{osl:Array (Option Value)}{kV doc pm cdv ct:Value}(l:K.lookup f=some ⟨oc,od,.func (PySem.W.fnOf x qual (zm st) (qao st) (zk st) .none kV doc pm an cdv ct),osl⟩)
  (c:PySem.W.codeIn K cdv qual=true) (k:PySem.W.keepIn K (.ref f)=true):Fun K x qual st f (PySem.W.fnOf x qual (zm st) (qao st) (zk st) .none kV doc pm an cdv ct):=⟨⟨oc,od,kV,doc,pm,an,cdv,ct,osl,rfl,l,c⟩,k⟩
end
section
variable{X:Cx}
end
noncomputable def qf(H H':Hp):Prop:=∀b o,H b=some o→H' b=some o
theorem qf.refl(H:Hp):qf H H:=fun _ _ h=>h
theorem qf.trans{H H1 H2:Hp}(a:qf H H1)(b:qf H1 H2):qf H H2:=fun c o h=>b c o (a c o h)
theorem qf.free{H H':Hp}(e:qf H H'){l:Addr}(h:H' l=Option.none):H l=Option.none:=by
 cases q:H l with
 |none=>rfl
 |some o=>
  rw [e l o q]at h;cases h
theorem qf.seq{K:PySem.W.Frag}{H H':Hp}{a:Addr}{xs:List V}(e:qf H H')(h:SqL K H a xs):SqL K H' a xs:=by
 rcases h with (h|⟨o,h⟩)|h
 ·exact .inl (.inl (e _ _ h))
 ·exact .inl (.inr ⟨o,e _ _ h⟩)
 ·exact .inr h
noncomputable def qaa(elt:Expr)(gens:List Comprehension)(scope:Scope)(pos:Pos)(d:Nat)(acc:Value)(env:Env):Sem Unit:=
 match gens[d+1]? with
 |some g'=>do
  let x ←eval g'.iter env
  standAt g'.iter.pos
  let x ←foldedSetIterable g'.iter env x
  let _ ←runOwn (.compStart (.ListComp elt gens scope pos) (d+1) (←holding [x] (pyIter x)) acc env) env
  pure ()
 |none=>do
  let _ ←call (.builtin "list.append") [acc,←eval elt env]
  pure ()
theorem qhM{elt:Expr}{gens:List Comprehension}{scope:Scope}{pos:Pos}{d:Nat}{g:Comprehension}{it acc:Value}{env:Env}(hg:gens[d]? = some g)(ha:g.is_async=0)
  (hn:∀g',gens[d+1]? = some g'→g'.is_async=0) :
  compTurn (.ListComp elt gens scope pos) d it acc env=(do
   standAt g.iter.pos
   match ←pyNext it with
   |none=>pure (.done .next)
   |some v=>
    letOwnedTupleGo g.target it v
    assign g.target env v
    let ok ←(forIn g.ifs true fun c r=>if r=true then do let ok ←isTrue c env (eval c env);pure (ForInStep.yield ok)else pure (ForInStep.yield r))
    if ok then
     qaa elt gens scope pos d acc env
     again (.compLoop (.ListComp elt gens scope pos) d it acc env)
    else again (.compLoop (.ListComp elt gens scope pos) d it acc env)):=by
 unfold compTurn;cases e:gens[d+1]? with
 |none=>
  simp only [hg,ha,e,qaa]
  rfl
 |some g'=>
  have ha':=hn g' e;simp only [hg,ha,e,ha',qaa];simp only [bne_self_eq_false,Bool.false_eq_true,if_false,bind_assoc,pure_bind]
  rfl
theorem qbj{prog:Program}{w:World}{A:Around}{R:Result→Shared→Prop}{s:Shared}{elt:Expr}{gens:List Comprehension}{scope:Scope}{pos:Pos}{d:Nat}{g:Comprehension}{it acc:Value}{env:Env}
  (hg:gens[d]? = some g) (ha:g.is_async=0)
  (h0:codeAny (model prog w) A (.compLoop (.ListComp elt gens scope pos) d it acc env) R s)
  (h:wpAny (model prog w) A (pyIter it) (fun it' s'=>codeAny (model prog w) A (.compLoop (.ListComp elt gens scope pos) d it' acc env) R s')
   (notedBy (model prog w) A env fun x s'=>R (.error x) s') s) :
  codeAny (model prog w) A (.compStart (.ListComp elt gens scope pos) d it acc env) R s:=by
 refine codeAny_of_tree ?_;show wpAny _ _ ((compStart (.ListComp elt gens scope pos) d it acc env).onRaise (fun x=>do noteFrame x env;standAt theWindowsPlace)) _ _ s;refine wpAny_notedAt ?_;unfold compStart;have e2:(clausesOf (.ListComp elt gens scope pos))[d]? = some g:=hg;simp only [e2];rw [if_neg (by show ¬ (g.is_async != 0)=true;simp [ha])];show wpAny _ _ (ask>>=_) _ _ s;refine wpAny_bind (wpAny_askSetting (wpAny_ite ?_));split
 ·first
   |exact wpAny_bind (wpAny_pure (wpAny_pure (And.intro rfl h0)))
   |exact wpAny_pure (And.intro rfl h0)
 ·first
   |exact wpAny_bind (wpAny_rule (wpAny_bind (wpAny_standAt (wpAny_bind (wpAny_mono h (fun it' s' h'=>wpAny_pure (And.intro rfl h')) fun _ _ x=>x)))))
   | (refine wpAny_bind (wpAny_rule ?_);show wpAny _ _ (standAt g.iter.pos>>=_) _ _ s;exact wpAny_bind (wpAny_standAt (wpAny_bind (wpAny_mono h (fun it' s' h'=>wpAny_pure (And.intro rfl h')) fun _ _ x=>x))))
noncomputable def PTs(Y:Cx)(ifs:List Expr)(t:TT):Prop:=
 ∀(pins:List (Addr×Obj)) (s:Shared) (σ:St) (H:Hp) (Q:Bool→Hp→Prop),Inv Y pins σ H s→t σ H Q →
  wpAny (model Y.prog Y.w) Y.A (forIn ifs true fun c r=>if r=true then do let ok ←isTrue c Y.env (eval c Y.env);pure (ForInStep.yield ok)else pure (ForInStep.yield r)) (TP Y pins σ Q) Y.xe s
noncomputable def qqp:TT:=fun _ H Q=>Q true H
theorem qiJ{Y:Cx}:PTs Y [] qqp:=fun _ _ _ H _ I h=>wpAny_tests_nil ⟨H,I,h⟩
theorem qpA{Y:Cx}{c:Expr}{t:TT}(hc:PT Y c t):PTs Y [c] t:=fun pins s σ H Q I h=>wpAny_tests_one (hc pins s σ H Q I h)
noncomputable def PB(Y:Cx)(m:Sem Unit)(t:TS):Prop:=
 ∀(pins:List (Addr×Obj)) (s:Shared) (σ:St) (H:Hp) (D:Ends),Inv Y pins σ H s→t D σ H →
  wpAny (model Y.prog Y.w) Y.A m (fun _ s'=>∃σ' H',Inv Y pins σ' H' s'∧D.nx σ' H') Y.xe s
section
variable{Y:Cx}{elt:Expr}{gens:List Comprehension}{scope:Scope}{pos:Pos}{d:Nat}
noncomputable def qdv(acc:Addr)(te:TE):TS:=fun D σ H=>te σ H fun y H1=>∃xs,H1 acc=some (.lst xs)∧xs.length<sizeLine∧D.nx σ (upd H1 acc (.lst (xs++[y])))
theorem qfM{acc:Addr}{te:TE}(hn:gens[d+1]? = none)(he:PE Y elt te):PB Y (qaa elt gens scope pos d (.ref acc) Y.env) (qdv acc te):=by
 intro pins s σ H D I h;unfold qaa;rw [hn];refine wpAny_bind (thn (he pins s σ H _ I h) fun u s1 ⟨y,H1,I1,r1,xs,hx,hz,q⟩=>?_);refine wpAny_bind (thn (qgs pins s1 σ H1 (.ref acc) [y] (.ref acc) [u] (fun _ H'=>D.nx σ H') I1 rfl (.cons r1 .nil) ⟨acc,xs,y,rfl,rfl,hx,hz,q⟩) fun _ s2 ⟨_,H2,I2,_,q2⟩=>?_);exact wpAny_pure ⟨σ,H2,I2,q2⟩
theorem qgq{g:Comprehension}{it:Addr}{acc:Value}{fp:List Addr}{tn:Nat→Heap→Prop}{J:It}{tg:TG}{tt:TT}{tb:TS}(hc:Y.calm=true)(hx:∀e s,¬ Y.xe e s)(hg:gens[d]? = some g)(ha:g.is_async=0)
  (hn:∀g',gens[d+1]? = some g'→g'.is_async=0) (T:Turn Y.prog Y.w Y.K g.target J fp it tn) (pg:PG Y g.target tg) (pt:PTs Y g.ifs tt) (pb:PB Y (qaa elt gens scope pos d acc Y.env) tb)
  {pins:List (Addr×Obj)}{s:Shared}{σ:St}{H:Hp}{D:Ends} (I:Inv Y pins σ H s) (st:tn 0 s.heap) (fr:∀b∈fp,qbz Y pins H b)
  (h:∃W:Nat→Nat→St→Hp→Prop,(∃m,W 0 m σ H)∧∀i m σ H,W i m σ H →
   (J.stop i H∧D.nx σ H)∨(J.go i H∧∃N:St→Hp→Prop,(∀σ' H',N σ' H'→∃m',m'<m∧W (i+1) m' σ' H')∧∀x H',J.yld i H x H'→tg x σ H' fun σ2 H2=>qdW tt tb qbR {D with nx:=N,ct:=N,bk:=D.nx} σ2 H2)) :
  codeAny (model Y.prog Y.w) Y.A (.compLoop (.ListComp elt gens scope pos) d (.ref it) acc Y.env) (fun r s'=>r=.ok .next∧∃σ' H',Inv Y pins σ' H' s'∧D.nx σ' H') s:=by
 obtain⟨W,⟨m0,w0⟩,turn⟩:=h;have stat:∀{H':Hp},(∀b∈fp,H' b=none)→∀b∈fp,qbz Y pins H' b:=fun hn b hb=>⟨hn b hb,(fr b hb).2⟩
 refine codeAny_loop rfl (fun n s'=>∃i σ' H',Inv Y pins σ' H' s'∧tn i s'.heap∧(∀b∈fp,H' b=none)∧W i n σ' H') ?_ m0 ⟨0,σ,H,I,st,fun b hb=>(fr b hb).1,w0⟩;rintro n s3 ⟨i,σ3,H3,I3,st3,fr3,w3⟩;show wpAny _ Y.A ((compTurn (.ListComp elt gens scope pos) d (.ref it) acc Y.env).onRaise (fun x=>do noteFrame x Y.env;theTreesLotGoes x)) _ _ s3;refine wpAny_noted ?_;rw [qhM hg ha hn];have nox:∀{E:Value→Shared→Prop} (e:Value) (s:Shared),Y.xe e s→E e s:=fun e s z=>absurd z (hx e s)
 refine wpAny_bind (wpAny_standAt ?_);rcases turn i n σ3 H3 w3 with ⟨stop,qn⟩|⟨go,N,hN,step⟩
 ·refine wpAny_bind (thn (T.done Y rfl rfl rfl hc i pins s3 σ3 H3 _ I3 (stat fr3) st3 stop) fun r s4 ⟨hr,I4⟩=>?_);subst hr;exact wpAny_pure ⟨rfl,σ3,H3,I4,qn⟩
 ·refine wpAny_bind (thn (T.item Y rfl rfl rfl hc i pins s3 σ3 H3 _ I3 (stat fr3) st3 go) fun r s4 ⟨u,hr,h4⟩=>?_);subst hr;refine wpAny_bind (thn h4 fun _ s5 ⟨x,H5,I5,r5,y5,st5,fr5⟩=>?_);have I5':=I5.pinned (stat fr5) (T.obj _ _ st5);refine wpAny_bind (wpAny_mono (pg _ s5 σ3 H5 x u _ I5' r5 (step x H5 y5)) (fun _ s6 ⟨σ6,H6,I6,q6⟩=>?_) nox);have again:∀{s7:Shared}{σ7:St}{H7:Hp},Inv Y (pins++qdR fp s5.heap) σ7 H7 s7→N σ7 H7→∃m,m<n∧∃i σ' H',Inv Y pins σ' H' s7∧tn i s7.heap∧(∀b∈fp,H' b=none)∧W i m σ' H':=fun {s7 σ7 H7} I7 n7=>by
   obtain⟨m',hm,w7⟩:=hN σ7 H7 n7;refine⟨m',hm,i+1,σ7,H7,I7.unpinned,T.keep _ _ _ st5 fun b hb o e=>(I7.pin (b,o) (List.mem_append_right _ (List.mem_append_right _ (qbU hb e)))).1,fun b hb=>?_,w7⟩;obtain⟨o,e,d⟩:=T.obj _ _ st5 b hb;exact(I7.pin (b,o) (List.mem_append_right _ (List.mem_append_right _ (qbU hb e)))).2.1
  refine wpAny_bind (wpAny_mono (pt _ s6 σ6 H6 _ I6 q6) (fun b s7 ⟨H7,I7,q7⟩=>?_) nox);cases b with
  |true=>
   rw [if_pos rfl];rw [if_pos rfl]at q7;refine wpAny_bind (wpAny_mono (pb _ s7 σ6 H7 _ I7 q7) (fun _ s8 ⟨σ8,H8,I8,q8⟩=>?_) nox);exact wpAny_pure ⟨rfl,again I8 q8⟩
  |false=>
   rw [if_neg Bool.false_ne_true];rw [if_neg Bool.false_ne_true]at q7;exact wpAny_pure ⟨rfl,again I7 q7⟩
theorem qpt{g:Comprehension}{acc:Value}{wi:TI}{tg:TG}{tt:TT}{tb:TS}(hc:Y.calm=true)(hx:∀e s,¬ Y.xe e s)(hg:gens[d+1]? = some g)(ha:g.is_async=0)
  (hn:∀g',gens[d+1+1]? = some g'→g'.is_async=0) (hi:PI Y g.target g.iter wi) (pg:PG Y g.target tg) (pt:PTs Y g.ifs tt) (pb:PB Y (qaa elt gens scope pos (d+1) acc Y.env) tb)
  (hs:∀x,foldedSetIterable g.iter Y.env x=pure x:=by intro _;rfl):PB Y (qaa elt gens scope pos d acc Y.env) (qhs wi tg (qdW tt tb qbR)):=by
 intro pins s σ H D I h;unfold qaa;rw [hg];refine wpAny_bind (thn (hi pins s σ H _ I h) fun v s1 h1=>?_);refine wpAny_bind (wpAny_standAt (wpAny_bind (wpAny_of_eq (hs v) (wpAny_bind (wpAny_holding (thn h1 fun itv s2 h2=>?_))))));obtain⟨it,fp,tn,J,H2,e,I2,T,st2,f2,q⟩:=h2;subst e;have L:=qgq hc hx hg ha hn T pg pt pb I2 st2 f2 q;refine wpAny_bind (wpAny_runOwn (codeAny_mono (qbj hg ha L (T.self _ 0 s2 _ _ st2 L)) fun r s' ⟨e,σ',H',I',q'⟩=>?_));subst e;exact wpAny_pure ⟨σ',H',I',q'⟩
end
theorem qdm{env:Env}:∀{names:List (Str×NameKind)}{cs:List (Str×Addr)},(∀x∈names,x.2=.free→∃c,env.cells.lookup x.1=some c) →
  ∃cl,(forIn names cs (fun(x:Str×NameKind) (cs:List (Str×Addr))=>if (x.2==NameKind.free)=true then do let c ←cellOf env x.1;pure (ForInStep.yield ((x.1,c)::cs))else pure (ForInStep.yield cs)):Sem (List (Str×Addr)))=pure cl ∧
   (∀x c,cl.lookup x=some c→env.cells.lookup x=some c∨cs.lookup x=some c)∧(∀x,(∃c,cs.lookup x=some c)→∃c,cl.lookup x=some c)∧∀x∈names,x.2=.free→∃c,cl.lookup x.1=some c
 | [],cs,_=>⟨cs,by rw [List.forIn_nil],fun _ _ h=>.inr h,fun _ h=>h,fun _ h=>nomatch h⟩
 | (n,k)::r,cs,h=>by
  rw [List.forIn_cons];by_cases hk:k=.free
  ·subst hk;obtain⟨c,hc⟩:=h (n,.free) List.mem_cons_self rfl;have e:cellOf env n=pure c:=by
    have hc':env.cells.lookup n=some c:=hc;unfold cellOf;rw [hc']
   obtain⟨cl,e1,e2,e3,e4⟩:=qdm (names:=r) (cs:=(n,c)::cs) fun x hx=>h x (List.mem_cons_of_mem _ hx)
   refine⟨cl,?_,fun x c' q=>?_,fun x q=>e3 x ?_,fun x hx hf=>?_⟩
   ·simp only [beq_self_eq_true,if_true,e,pure_bind];exact e1
   ·rcases e2 x c' q with z|z
    ·exact .inl z
    ·rw [List.lookup_cons]at z;by_cases hxn:(x==n)=true
     ·rw [hxn]at z;have:x=n:=by simpa using hxn
      subst this;cases z;exact .inl hc
     ·have hxn':(x==n)=false:=by simpa using hxn
      rw [hxn']at z;exact .inr z
   ·rw [List.lookup_cons];by_cases hxn:(x==n)=true
    ·rw [hxn];exact⟨c,rfl⟩
    ·have hxn':(x==n)=false:=by simpa using hxn
     rw [hxn'];exact q
   ·rcases List.mem_cons.mp hx with z|z
    ·subst z;exact e3 n ⟨c,by rw [List.lookup_cons,beq_self_eq_true]⟩
    ·exact e4 x z hf
  ·have hk':(k==NameKind.free)=false:=by simpa using hk
   obtain⟨cl,e1,e2,e3,e4⟩:=qdm (names:=r) (cs:=cs) fun x hx=>h x (List.mem_cons_of_mem _ hx)
   refine⟨cl,?_,e2,e3,fun x hx hf=>?_⟩
   ·simp only [hk',Bool.false_eq_true,if_false,pure_bind];exact e1
   ·rcases List.mem_cons.mp hx with z|z
    ·subst z;exact absurd hf hk
    ·exact e4 x z hf
theorem qdB{env:Env}{scope:Scope}(h:∀x∈scope.names,x.2=.free→∃c,env.cells.lookup x.1=some c) :
  ∃cl,closureFor scope env=pure cl∧(∀x c,cl.lookup x=some c→env.cells.lookup x=some c)∧∀x∈scope.names,x.2=.free→∃c,cl.lookup x.1=some c:=by
 obtain⟨cl,e1,e2,_,e4⟩:=qdm (env:=env) (names:=scope.names) (cs:=[]) h;refine⟨cl,?_,fun x c q=>(e2 x c q).elim (fun z=>z) (fun z=>by simp at z),e4⟩;have e:closureFor scope env=(forIn scope.names [] (fun(x:Str×NameKind) (cs:List (Str×Addr))=>if (x.2==NameKind.free)=true then do let c ←cellOf env x.1;pure (ForInStep.yield ((x.1,c)::cs))else pure (ForInStep.yield cs))>>=fun cs=>pure cs):=rfl;rw [e,e1,pure_bind]
theorem qaQ{env:Env}:∀{names:List (Str×NameKind)}{x:Str}{k:NameKind},
  (names.map fun(n,k)=>if (k==NameKind.free&&env.scope.kind==.function&&env.kindOf n==some .cell)then (n,NameKind.cell)else (n,k)).lookup x=some k →
  names.lookup x=some k∨(k=.cell∧names.lookup x=some .free)
 | [],_,_,h=>by simp at h
 | (n,k')::r,x,k,h=>by
  have ih:=@qaQ env r x k;have h':List.lookup x ((if (k'==NameKind.free&&env.scope.kind==.function&&env.kindOf n==some .cell)=true then (n,NameKind.cell)else (n,k'))::r.map (fun(n,k)=>if (k==NameKind.free&&env.scope.kind==.function&&env.kindOf n==some .cell)then (n,NameKind.cell)else (n,k)))=some k:=h;cases hx:x==n with
  |true=>
   by_cases hc:(k'==NameKind.free&&env.scope.kind==.function&&env.kindOf n==some .cell)=true
   ·rw [if_pos hc]at h';simp only [List.lookup_cons,hx]at h';cases h';have:k'=.free:=by
     have z:(k'==NameKind.free)=true:=by
      cases q:(k'==NameKind.free)with
      |true=>rfl
      |false=>rw [q]at hc;simp at hc
     simpa using z
    subst this;exact .inr ⟨rfl,by simp [List.lookup_cons,hx]⟩
   ·rw [if_neg hc]at h';simp only [List.lookup_cons,hx]at h';cases h';exact .inl (by simp [List.lookup_cons,hx])
  |false=>
   have h2:(r.map (fun(n,k)=>if (k==NameKind.free&&env.scope.kind==.function&&env.kindOf n==some .cell)then (n,NameKind.cell)else (n,k))).lookup x=some k:=by
    by_cases hc:(k'==NameKind.free&&env.scope.kind==.function&&env.kindOf n==some .cell)=true
    ·rw [if_pos hc]at h';simpa only [List.lookup_cons,hx]using h'
    ·rw [if_neg hc]at h';simpa only [List.lookup_cons,hx]using h'
   rcases ih h2 with z|z
   ·exact .inl (by simpa only [List.lookup_cons,hx]using z)
   ·exact .inr ⟨z.1,by simpa only [List.lookup_cons,hx]using z.2⟩
noncomputable def qfV(names:List (Str×NameKind)):List Str:=(names.filter fun y=>y.2==.cell).map (·.1)
theorem qbO:∀(names:List (Str×NameKind)) (n:Nat) (a b:List (Str×Addr)),cellsFrom n names (a++b)=cellsFrom n names a++b
 | [],_,_,_=>rfl
 | (x,k)::r,n,a,b=>by
  unfold cellsFrom;split
  ·exact qbO r (n+1) ((x,n)::a) b
  ·exact qbO r n a b
theorem qbP{x:Str}{c:Addr}:∀{names:List (Str×NameKind)}{n:Nat}{a:List (Str×Addr)},(x,c)∈cellsFrom n names a→(x,c)∈a∨(x,NameKind.cell)∈names
 | [],_,_,h=>.inl h
 | (y,k)::r,n,a,h=>by
  unfold cellsFrom at h;split at h
  ·rename_i hk
   rcases qbP h with z|z
   ·rcases List.mem_cons.mp z with q|q
    ·have hk:k=.cell:=by simpa using hk
     cases q;exact .inr (by rw [hk];exact List.mem_cons_self)
    ·exact .inl q
   ·exact .inr (List.mem_cons_of_mem _ z)
  ·rcases qbP h with z|z
   ·exact .inl z
   ·exact .inr (List.mem_cons_of_mem _ z)
theorem qer{M:Model}{A:Around}{E:Value→Shared→Prop}{s:Shared}{scope:Scope}{globals:Addr}{cl:List (Str×Addr)}{qual:Str}{env:Env}{Q:Env→Shared→Prop}
  (hQ:∀h₁,h₁.Ns s.heap.objs.size (fun _=>none)→(∀b o,s.heap.get? b=some o→h₁.get? b=some o)→CellsOk h₁ (s.heap.objs.size+1) (cellsFrom (s.heap.objs.size+1) scope.names []) →
   Q (newEnv scope s.heap.objs.size globals (cellsFrom (s.heap.objs.size+1) scope.names []++cl) qual none .none (some env) builtinsNs) {s with heap:=h₁}) :
  wpAny M A (newFunctionEnv scope globals cl [] qual none .none (some env)) Q E s:=by
 simp only [newFunctionEnv,Option.isSome_some,if_true];refine wpAny_bind (wpAny_alloc ?_);refine wpAny_bind (wpAny_layCells _ (fun name kind cells=>by cases hkc:kind==NameKind.cell<;>simp [hkc]) _ _ _ _ ?_);have ok:=cellsFrom_ok scope.names (s.heap.push {cls:=.type "dict",data:=.dict #[]}) (s.heap.objs.size+1) [] ⟨fun _ _ hm=>(nomatch hm),List.Pairwise.nil⟩ (by rw [Heap.size_push];exact Nat.le_refl _);rw [Heap.size_push]at ok;rw [show ({s with heap:=s.heap.push {cls:=.type "dict",data:=.dict #[]}}:Shared).heap.objs.size=s.heap.objs.size+1 from Heap.size_push ..];rw [show cl=[]++cl from rfl,qbO];rw [List.forIn_nil];exact wpAny_bind (wpAny_pure (wpAny_pure (hQ _ ((Heap.Ns.new s.heap (.type "dict")).keeps (pushCells_keeps _ _)) (fun b o e=>pushCells_keeps _ _ b o (Heap.get?_push_of_some _ e)) ok)))
noncomputable def zu(X:Cx)(NY:List Str)(scope:Scope)(cl:List (Str×Addr))(C:Addr)(s₀:Shared)(H₀:Hp)(fp:List Addr):Cx where
 prog:=X.prog
 w:=X.w
 K:=X.K
 mg:=X.mg
 base:=X.base
 A:=X.A
 N:=NY
 s₀:=s₀
 H₀:=H₀
 env:=compEnvC scope (cellsFrom (C+1) scope.names []++cl) C X.env
 outer:=X.stack
 stack:=X.stack
 ex:=fp
 fn:=fun x=>(qfV scope.names).contains x
 calm:=X.calm
 pn:=[]
 xe:=fun _ _=>False
noncomputable def caps(cap:List (Option Nat))(σ:St):St:=cap.map fun o=>o.bind fun j=>(σ[j]?).join
noncomputable def qnW(X:Cx)(NY:List Str)(cap:List (Option Nat))(scope:Scope):Prop:=
 cap.length=NY.length∧∀(i j:Nat),cap[i]? = some (some j)→∃x,NY[i]? = some x∧X.N[j]? = some x∧scope.names.lookup x=some .free∧(X.env.kindOf x=some .cell∨X.env.kindOf x=some .free)
structure zJ(X:Cx)(NY:List Str)(cap:List (Option Nat))(scope:Scope):Prop where
 kind:scope.kind=.function
 cells:∀y∈scope.names,y.2=.cell→scope.names.lookup y.1=some .cell
 names:∀y∈scope.names,y.2=.local→scope.names.lookup y.1=some .local
 free:∀y∈scope.names,y.2=.free→X.env.kindOf y.1=some .cell∨X.env.kindOf y.1=some .free
 cap:qnW X NY cap scope
theorem qmJ{cap:List (Option Nat)}{σ:St}{i:Nat}{v:V}(h:(caps cap σ)[i]? = some (some v)):∃j,cap[i]? = some (some j)∧σ[j]? = some (some v):=by
 unfold caps at h;rw [List.getElem?_map]at h;cases e:cap[i]? with
 |none=>rw [e]at h;simp at h
 |some o=>
  rw [e]at h;cases o with
  |none=>simp at h
  |some j=>
   refine⟨j,rfl,?_⟩;have h':(σ[j]?).join=some v:=by simpa using h
   cases q:σ[j]? with
   |none=>rw [q]at h';cases h'
   |some z=>rw [q]at h';exact congrArg some h'
theorem qnt{X:Cx}{pins:List (Addr×Obj)}{σ:St}{H:Hp}{s:Shared}{NY:List Str}{cap:List (Option Nat)}{scope:Scope}{cl:List (Str×Addr)}{fp:List Addr}{h₁:Heap}{m:Str→Option Value}
  (I:Inv X pins σ H s) (S:zJ X NY cap scope) (hsub:∀x c,cl.lookup x=some c→X.env.cells.lookup x=some c) (hall:∀x∈scope.names,x.2=.free→∃c,cl.lookup x.1=some c)
  (hf:∀b∈fp,qbz X pins H b) (hlt:∀b∈fp,b<s.heap.objs.size) (hn:h₁.Ns s.heap.objs.size m) (hk:∀b o,s.heap.get? b=some o→h₁.get? b=some o) (hcs:CellsOk h₁ (s.heap.objs.size+1) (cellsFrom (s.heap.objs.size+1) scope.names [])) {tk:Nat} :
  Inv (zu X NY scope cl s.heap.objs.size s H fp) [] (caps cap σ) H {s with heap:=h₁,toks:=tk}:=by
 have relx:∀x,(compEnvC scope (cellsFrom (s.heap.objs.size+1) scope.names []++cl) s.heap.objs.size X.env).kindOf x=some .cell∨(compEnvC scope (cellsFrom (s.heap.objs.size+1) scope.names []++cl) s.heap.objs.size X.env).kindOf x=some .free→scope.names.lookup x=some .free∨scope.names.lookup x=some .cell:=fun x hx=>by
  rcases hx with q|q
  ·rcases qaQ (env:=X.env) (names:=scope.names) (x:=x) (k:=.cell) q with z|z
   ·exact .inr z
   ·exact .inl z.2
  ·rcases qaQ (env:=X.env) (names:=scope.names) (x:=x) (k:=.free) q with z|z
   ·exact .inl z
   ·exact .inl z.2
 have cnew:∀x c,cl.lookup x=some c→c<s.heap.objs.size:=fun x c e=>by
  obtain⟨v,q⟩:=I.cell x c (hsub x c e);exact q.lt
 -- a cell is one of its own, or one from around
 have two:∀x c,(cellsFrom (s.heap.objs.size+1) scope.names []++cl).lookup x=some c→(x,c)∈cellsFrom (s.heap.objs.size+1) scope.names []∨cl.lookup x=some c:=fun x c e=>by
  rw [List.lookup_append]at e;cases q:(cellsFrom (s.heap.objs.size+1) scope.names []).lookup x with
  |none=>rw [q]at e;exact .inr e
  |some c'=>rw [q]at e;cases e;exact .inl (PySem.mem_of_lookup q)
 have own1:∀x c,(x,c)∈cellsFrom (s.heap.objs.size+1) scope.names []→scope.names.lookup x=some .cell:=fun x c e=>by
  rcases qbP e with z|z
  ·cases z
  ·exact S.cells _ z rfl
 have ownA:∀x c,(x,c)∈cellsFrom (s.heap.objs.size+1) scope.names []→s.heap.objs.size<c:=fun x c e=>(hcs.empty x c e).2
 have frl:∀x c,scope.names.lookup x=some .free→cl.lookup x=some c→(cellsFrom (s.heap.objs.size+1) scope.names []++cl).lookup x=some c:=fun x c e1 e2=>by
  rw [List.lookup_append];cases q:(cellsFrom (s.heap.objs.size+1) scope.names []).lookup x with
  |none=>rw [e2];rfl
  |some c'=>have:=own1 x c' (PySem.mem_of_lookup q);rw [e1]at this;cases this
 refine⟨⟨I.ok.mod,S.kind,I.ok.glob,I.ok.blt,Nat.le_refl _,fun x y c e1 e2=>?_,fun x hx=>?_,fun x c e e2=>?_,I.ok.hd,I.ok.frames,.inl rfl,fun b hb=>?_,fun b o e=>I.bs b o e,Nat.le_trans I.ok.bsz I.sz,fun b o e hb=>?_,fun b hb z=>?_,I.stack,I.stkFree⟩,
  rfl,I.bare,Un.kept hk,⟨m,hn,fun i x v e1 e2 e3=>?_⟩,fun x c e=>?_,I.hok.fresh (Nat.le_refl _),fun x c e=>?_,fun p hp=>absurd (show p∈([]:List (Addr×Obj))from hp) (by simp),I.hok.kept hk,?_⟩
 ·rcases two x c e1 with z1|z1<;>rcases two y c e2 with z2|z2
  ·exact name_of_addr hcs.apart z1 z2
  ·exact absurd (Nat.lt_trans (cnew y c z2) (ownA x c z1)) (Nat.lt_irrefl _)
  ·exact absurd (Nat.lt_trans (cnew x c z1) (ownA y c z2)) (Nat.lt_irrefl _)
  ·exact I.ok.inj x y c (hsub x c z1) (hsub y c z2)
 ·rcases relx x hx with z|z
  ·obtain⟨c,hc⟩:=hall (x,.free) (PySem.mem_of_lookup z) rfl;exact⟨c,frl x c z hc⟩
  ·obtain⟨c,hc⟩:=qdn (n:=s.heap.objs.size+1) z;refine⟨c,?_⟩;show (cellsFrom (s.heap.objs.size+1) scope.names []++cl).lookup x=some c;rw [List.lookup_append,hc];rfl
 ·have e:(qfV scope.names).contains x=true:=e;have hm:scope.names.lookup x=some .cell:=by
   simp only [qfV,List.contains_iff_mem,List.mem_map,List.mem_filter,beq_iff_eq]at e;obtain⟨y,⟨y1,y2⟩,rfl⟩:=e;exact S.cells y y1 y2
  rcases two x c e2 with z|z
  ·exact Nat.le_of_lt (ownA x c z)
  ·obtain⟨c',hc⟩:=qdn (n:=s.heap.objs.size+1) hm;have e2:(cellsFrom (s.heap.objs.size+1) scope.names []++cl).lookup x=some c:=e2;rw [List.lookup_append,hc]at e2;cases e2;exact Nat.le_of_lt (ownA x _ (PySem.mem_of_lookup hc))
 ·obtain⟨f0,f1,f2,f3,f4,f5⟩:=hf b hb;refine⟨Nat.ne_of_lt (hlt b hb),fun x c e=>?_⟩;rcases two x c e with z|z
  ·exact fun w=>absurd (Nat.lt_trans (ownA x c z) (w▸hlt b hb)) (Nat.lt_irrefl _)
  ·exact f4 x c (hsub x c z)
 ·obtain⟨f0,f1,f2,f3,f4,f5⟩:=hf b hb;rcases f3 with z|z
  ·exact I.ok.noex b o e z
  ·exact absurd (Nat.lt_of_lt_of_le (Heap.lt_size e) (Nat.le_trans I.ok.bsz z)) (Nat.lt_irrefl _)
 ·obtain⟨f0,f1,f2,f3,f4,f5⟩:=hf b hb;rcases List.mem_cons.mp (I.stkSub b z)with q|q
  ·exact f1 q
  ·exact f2 q
 ·obtain⟨j,c1,c2⟩:=qmJ e2;obtain⟨x',n1,n2,n3,n4⟩:=S.cap.2 i j c1;have ex:x'=x:=Option.some.inj (n1.symm.trans e1);subst ex;obtain⟨m',_,hl⟩:=I.loc;obtain⟨u,r,l⟩:=hl j x' v n2 c2 (n4.elim (fun z=>.inr (.inl z)) fun z=>.inr (.inr z));refine⟨u,r,.inr ⟨?_,?_⟩⟩
  ·rcases e3 with z|z|z
   ·rcases qaQ (env:=X.env) (names:=scope.names) (x:=x') (k:=.local) z with q|q
    ·rw [n3]at q;cases q
    ·cases q.1
   ·exact .inl z
   ·exact .inr z
  ·rcases l with ⟨kk,_⟩|⟨_,c,ec,ic⟩
   ·rcases n4 with z|z
    ·rw [kk]at z;cases z
    ·rw [kk]at z;cases z
   ·obtain⟨c',ec'⟩:=hall (x',.free) (PySem.mem_of_lookup n3) rfl;have:=hsub x' c' ec';rw [ec]at this;cases this;obtain⟨o,ho,hd⟩:=ic;exact⟨c,frl x' c n3 ec',o,hk _ _ ho,hd⟩
 ·rcases two x c e with z|z
  ·exact⟨_,(hcs.empty x c z).1⟩
  ·obtain⟨v,o,ho,hd⟩:=I.cell x c (hsub x c z);exact⟨v,o,hk _ _ ho,hd⟩
 ·rcases two x c e with z|z
  ·exact I.hok.fresh (Nat.le_of_lt (ownA x c z))
  ·exact I.freeC x c (hsub x c z)
 ·show (caps cap σ).length=NY.length;unfold caps;rw [List.length_map];exact S.cap.1
noncomputable def qgW(cap:List (Option Nat))(wi:TI)(tg:TG)(tt:TT)(tb:Addr→TS):TE:=fun σ H Q=>wi σ H fun J H1=>∀acc,H1 acc=none →
 ∃W:Nat→Nat→St→Hp→Prop,(∃m,W 0 m (caps cap σ) (upd H1 acc (.lst [])))∧∀i m τ H,W i m τ H →
  (J.stop i H∧(Ends.mk (fun _ H=>Q (.ref acc) H) (fun _ _=>False) (fun _ _=>False) (fun _ _=>False)).nx τ H)∨(J.go i H∧∃N:St→Hp→Prop,(∀σ' H',N σ' H'→∃m',m'<m∧W (i+1) m' σ' H')∧∀x H',J.yld i H x H' →
   tg x τ H' fun σ2 H2=>qdW tt (tb acc) qbR {(Ends.mk (fun _ H=>Q (.ref acc) H) (fun _ _=>False) (fun _ _=>False) (fun _ _=>False))with nx:=N,ct:=N,bk:=(Ends.mk (fun _ H=>Q (.ref acc) H) (fun _ _=>False) (fun _ _=>False) (fun _ _=>False)).nx} σ2 H2)
structure Loose(X:Cx)(pins:List (Addr×Obj))(C:Addr):Prop where
 loc:C≠X.env.locals
 cell:∀x c,X.env.cells.lookup x=some c→c≠C
 up:X.s₀.heap.objs.size≤C
 pin:∀p∈X.pn++pins,p.1≠C
theorem Loose.turn{X:Cx}{pins:List (Addr×Obj)}{C:Addr}{σ:St}{H:Hp}{s:Shared}{h':Heap}(L:Loose X pins C)(I:Inv X pins σ H s)(hn:H C=none)(hs:Heap.SameBut C s.heap h'):Inv X pins σ H {s with heap:=h'}:=
 I.turned (t':=s.toks) (it:=C) (fun b o hb e=>(hs.2 b hb).trans e) hn L.loc (.inr L.up) L.cell L.pin
section
variable{X:Cx}{elt tgt it:Expr}{ifs:List Expr}{gs:List Comprehension}{scope:Scope}{pos:Pos}{NY:List Str}{cap:List (Option Nat)}{wi:TI}{tg:TG}{tt:TT}{tb:Addr→TS}
theorem qfh{Q:VK}{pins:List (Addr×Obj)}{σ:St}{H:Hp}{s s2:Shared}{cl:List (Str×Addr)}{itv:Value}{E:Value→Shared→Prop}{use:Option (Value→Sem Unit)}{QQ:Value→Shared→Prop}
  (hc:X.calm=true) (S:zJ X NY cap scope) (hng:∀g'∈gs,g'.is_async=0)
  (hsub:∀x c,cl.lookup x=some c→X.env.cells.lookup x=some c) (hall:∀x∈scope.names,x.2=.free→∃c,cl.lookup x.1=some c)
  (hb:∀cl C s₀ H₀ fp,PG (zu X NY scope cl C s₀ H₀ fp) tgt tg∧PTs (zu X NY scope cl C s₀ H₀ fp) ifs tt∧∀acc,PB (zu X NY scope cl C s₀ H₀ fp) (qaa elt (⟨tgt,it,ifs,0⟩::gs) scope pos 0 (.ref acc) (zu X NY scope cl C s₀ H₀ fp).env) (tb acc))
  (h2:PIE X pins σ tgt (fun J H1=>∀acc,H1 acc=none →
   ∃W:Nat→Nat→St→Hp→Prop,(∃m,W 0 m (caps cap σ) (upd H1 acc (.lst [])))∧∀i m τ H,W i m τ H →
    (J.stop i H∧(Ends.mk (fun _ H=>Q (.ref acc) H) (fun _ _=>False) (fun _ _=>False) (fun _ _=>False)).nx τ H)∨(J.go i H∧∃N:St→Hp→Prop,(∀σ' H',N σ' H'→∃m',m'<m∧W (i+1) m' σ' H')∧∀x H',J.yld i H x H' →
     tg x τ H' fun σ2 H2=>qdW tt (tb acc) qbR {(Ends.mk (fun _ H=>Q (.ref acc) H) (fun _ _=>False) (fun _ _=>False) (fun _ _=>False))with nx:=N,ct:=N,bk:=(Ends.mk (fun _ H=>Q (.ref acc) H) (fun _ _=>False) (fun _ _=>False) (fun _ _=>False)).nx} σ2 H2)) itv s2)
  (fin:∀(acc C:Addr) (s':Shared) (m:Str→Option Value) (H':Hp),s'.heap.Ns C m→Loose X pins C→Inv X pins σ H' s'→H' C=none→Q (.ref acc) H'→compPost (model X.prog X.w) X.A E use QQ (.ref acc) C (.ok .next) s') :
  wpAny (model X.prog X.w) X.A (newList []) (fun acc s₃=>wpAny (model X.prog X.w) X.A (newFunctionEnv scope X.env.globals cl [] X.env.qual none .none (some X.env)) (fun cenv s₄=>
   codeAny (model X.prog X.w) X.A (.compStart (.ListComp elt (⟨tgt,it,ifs,0⟩::gs) scope pos) 0 itv acc {cenv with scope:=relabel scope X.env}) (compPost (model X.prog X.w) X.A E use QQ acc cenv.locals) s₄) E s₃) E s2:=by
 obtain⟨ia,fp,tn,J,H2,e,I2,T,st2,f2,q⟩:=h2;subst e;have hlt2:∀b∈fp,b<s2.heap.objs.size:=fun b hb=>by
  obtain⟨o,ho,_⟩:=T.obj _ _ st2 b hb;exact Heap.lt_size ho
 refine wpAny_newObj_type ?_;have hacc:H2 s2.heap.objs.size=none:=I2.hok.fresh (Nat.le_refl _);have I3:Inv X pins σ (upd H2 s2.heap.objs.size (.lst [])) {s2 with heap:=s2.heap.push {cls:=.type "list",dict:=none,data:=.seq ([]:List Value).toArray}}:=
  I2.laid (t':=s2.toks) (fun b u e=>Heap.get?_push_of_some _ e) (Nat.le_refl _) ⟨Nat.zero_le _,[],0,.nil,Heap.get?_push_size _ rfl⟩
 have hsz3:(s2.heap.push {cls:=.type "list",dict:=none,data:=.seq ([]:List Value).toArray}).objs.size=s2.heap.objs.size+1:=Heap.size_push ..;generalize hs3:({s2 with heap:=s2.heap.push {cls:=.type "list",dict:=none,data:=.seq ([]:List Value).toArray}}:Shared)=s3 at I3 ⊢;have hsz:s3.heap.objs.size=s2.heap.objs.size+1:=by rw [←hs3];exact hsz3
 have st3:tn 0 s3.heap:=T.keep _ _ _ st2 fun b hb o e=>by rw [←hs3];exact Heap.get?_push_of_some _ e
 have f3:∀b∈fp,qbz X pins (upd H2 s2.heap.objs.size (.lst [])) b:=fun b hb=>⟨by rw [qt (Nat.ne_of_lt (hlt2 b hb))];exact(f2 b hb).1,(f2 b hb).2⟩
 have hlt3:∀b∈fp,b<s3.heap.objs.size:=fun b hb=>by rw [hsz];exact Nat.lt_succ_of_lt (hlt2 b hb)
 refine qer fun h₁ hns₁ hk1 hcs=>?_
 have IY:=qnt (tk:=s3.toks) I3 S hsub hall f3 hlt3 hns₁ hk1 hcs;have stY:tn 0 h₁:=T.keep _ _ _ st3 fun b hb o e=>hk1 b o e
 obtain⟨pg,pt,pb⟩:=hb cl s3.heap.objs.size s3 (upd H2 s2.heap.objs.size (.lst [])) fp;have fY:∀b∈fp,qbz (zu X NY scope cl s3.heap.objs.size s3 (upd H2 s2.heap.objs.size (.lst [])) fp) [] (upd H2 s2.heap.objs.size (.lst [])) b:=fun b hb=>by
  obtain⟨g0,g1,g2,g3,g4,g5⟩:=f3 b hb;refine⟨g0,Nat.ne_of_lt (hlt3 b hb),fun z=>?_,.inl hb,(IY.ok.exf b hb).2,fun p hp=>absurd (show p∈([]:List (Addr×Obj))from hp) (by simp)⟩;rcases List.mem_cons.mp (I3.stkSub b z)with w|w
  ·exact g1 w
  ·exact g2 w
 have L:=qgq (elt:=elt) (gens:=⟨tgt,it,ifs,0⟩::gs) (scope:=scope) (pos:=pos) (d:=0) (Y:=zu X NY scope cl s3.heap.objs.size s3 (upd H2 s2.heap.objs.size (.lst [])) fp) (acc:=.ref s2.heap.objs.size) hc (fun _ _ z=>z) rfl rfl
  (fun g' hg'=>hng g' (List.mem_of_getElem? (i:=0) (by simpa using hg'))) T pg pt (pb s2.heap.objs.size) IY stY fY (q s2.heap.objs.size hacc)
 refine codeAny_mono (qbj (elt:=elt) (gens:=⟨tgt,it,ifs,0⟩::gs) (scope:=scope) (pos:=pos) (d:=0) (env:=compEnvC scope (cellsFrom (s3.heap.objs.size+1) scope.names []++cl) s3.heap.objs.size X.env) rfl rfl L (T.self _ 0 _ _ _ stY L)) fun r s' ⟨e,τ',H',I',q'⟩=>?_
 subst e;obtain⟨m',hn',_⟩:=id I'.loc;have hLne:s3.heap.objs.size≠X.env.locals:=Nat.ne_of_gt I3.lt;have hCne:∀x c,X.env.cells.lookup x=some c→c≠s3.heap.objs.size:=fun x c e z=>by
  obtain⟨v,qv⟩:=I3.cell x c e;exact absurd qv.lt (by rw [z];exact Nat.lt_irrefl _)
 have J1:Inv X pins σ H' s':=by
  refine I3.call' (ch:=fp) I'.os I'.base I'.hok I'.bare fun b hb=>?_
  obtain⟨g0,g1,g2,g3,g4,g5⟩:=f3 b hb;exact⟨g3,g1,g4,g5⟩
 refine fin s2.heap.objs.size s3.heap.objs.size s' m' H' hn' ⟨hLne,hCne,I3.sz,fun p hp z=>?_⟩ J1 I'.free q';have:=Heap.lt_size (I3.pin p hp).1;rw [z]at this;exact Nat.lt_irrefl _ this
theorem qiB(hc:X.calm=true)(S:zJ X NY cap scope)(hi:PI X tgt it wi)
  (hb:∀cl C s₀ H₀ fp,PG (zu X NY scope cl C s₀ H₀ fp) tgt tg∧PTs (zu X NY scope cl C s₀ H₀ fp) ifs tt∧∀acc,PB (zu X NY scope cl C s₀ H₀ fp) (qaa elt (⟨tgt,it,ifs,0⟩::gs) scope pos 0 (.ref acc) (zu X NY scope cl C s₀ H₀ fp).env) (tb acc))
  (hng:∀g'∈gs,g'.is_async=0:=by simp)
  (hs:∀x,foldedSetIterable it X.env x=pure x:=by intro _;rfl):PE X (.ListComp elt (⟨tgt,it,ifs,0⟩::gs) scope pos) (qgW cap wi tg tt tb):=by
 intro pins s σ H Q I h;obtain⟨cl,hcl,hsub,hall⟩:=qdB (env:=X.env) (scope:=scope) fun x hx hf=>I.ok.has x.1 (S.free x hx hf)
 rw [eval_ListComp];refine wpAny_comprehension_free (use:=none) rfl hs hcl S.kind S.names (thn (hi pins s σ H _ I h) fun v s1 h1=>thn h1 fun itv s2 h2=>?_);exact qfh (s:=s) (H:=H) (use:=none) hc S hng hsub hall hb h2 fun acc C s' m H' hn L I' hC q=>⟨m,hn,fun h' hs'=>⟨.ref acc,H',L.turn I' hC hs',rfl,q⟩⟩
theorem qjH{i:Nat}{x:Str}{pos' spos:Pos}(hN:X.N.Nodup)(hix:X.N[i]? = some x)(hx:Loc X.env.scope x)(hc:X.calm=true)(S:zJ X NY cap scope)(hi:PI X tgt it wi)
  (hb:∀cl C s₀ H₀ fp,PG (zu X NY scope cl C s₀ H₀ fp) tgt tg∧PTs (zu X NY scope cl C s₀ H₀ fp) ifs tt∧∀acc,PB (zu X NY scope cl C s₀ H₀ fp) (qaa elt (⟨tgt,it,ifs,0⟩::gs) scope pos 0 (.ref acc) (zu X NY scope cl C s₀ H₀ fp).env) (tb acc))
  (hng:∀g'∈gs,g'.is_async=0:=by simp)
  (hsw:swapsWith (.ListComp elt (⟨tgt,it,ifs,0⟩::gs) scope pos) (some (.Name x pos')) spos.line X.env=pure true:=by rfl)
  (hf:X.fn x=true∨X.env.scope.names.lookup x=some .local:=by first|exact .inl rfl|exact .inr rfl|assumption)
  (hs:∀x,foldedSetIterable it X.env x=pure x:=by intro _;rfl) :
  PS X (.Assign [.Name x pos'] (.ListComp elt (⟨tgt,it,ifs,0⟩::gs) scope pos) spos) (qkt (qgW cap wi tg tt tb) (qcH i)):=by
 intro pins s σ H D I h;obtain⟨cl,hcl,hsub,hall⟩:=qdB (env:=X.env) (scope:=scope) fun x hx hf=>I.ok.has x.1 (S.free x hx hf)
 rw [exec_Assign_Name_used _ _ _ _ hsw];refine wpAny_bind (wpAny_standAt (wpAny_bind ?_));show wpAny _ _ (do let _ ←comprehension (.ListComp elt (⟨tgt,it,ifs,0⟩::gs) scope pos) scope X.env _ (newList []) false (eval it X.env) (some (assign (.Name x pos') X.env))) _ _ s;refine wpAny_bind (wpAny_mono (wpAny_comprehension_free (use:=some (assign (.Name x pos') X.env)) (Q:=fun _ s'=>SP X pins D .next s') rfl hs hcl S.kind S.names (thn (hi pins s σ H _ I h) fun v s1 h1=>thn h1 fun itv s2 h2=>?_)) (fun _ s' q=>wpAny_pure (wpAny_pure q)) fun _ _ e=>e);refine qfh (s:=s) (H:=H) (Q:=fun x H1=>qcH i x σ H1 D.nx) (use:=some (assign (.Name x pos') X.env)) hc S hng hsub hall hb h2 fun acc C s' m H' hn L I1 hC q1=>?_
 show wpAny _ _ (assign (.Name x pos') X.env (.ref acc)) _ _ _;refine wpAny_assign_Name (qgD (v:=.ref acc) I1 hN hix hx rfl (fun s3 I3 ⟨a,hsa,ha⟩=>?_) hf);have hCa:C≠a:=by
  rcases ha with z|z
  ·rw [z];exact L.loc
  ·exact Ne.symm (L.cell x a z)
 exact⟨m,hn.sameBut hsa hCa,fun h' hsb=>⟨_,H',L.turn I3 hC hsb,q1⟩⟩
end
theorem zM.there{P:Program}{w:World}{H:Hp}{h:Heap}{a:Addr}{o:HO}(x:zM P w H h a o):∃u,h.get? a=some u:=by
 cases o with
 |lst xs=>obtain⟨_,_,_,_,e⟩:=x;exact⟨_,e⟩
 |tup xs=>obtain⟨_,_,_,o,e,_⟩:=x;exact⟨_,e⟩
 |dK kvs=>obtain⟨_,_,_,_,o,_,_,e,_⟩:=x;exact⟨_,e⟩
 |dT kvs=>obtain⟨_,_,_,_,o,_,_,e,_⟩:=x;exact⟨_,e⟩
 |set S n=>obtain⟨o,_,_,_,e,_⟩:=x;exact⟨_,e⟩
 |ins C dx fs=>obtain⟨_,_,_,e,_⟩:=x;exact⟨_,e⟩
 |own y=>obtain⟨_,e⟩:=x;exact⟨_,e⟩
 |xd fs=>obtain⟨_,⟨_,_,_,e,_⟩,_⟩:=x;exact⟨_,e⟩
 |rng lo hi=>obtain⟨_,_,_,e⟩:=x;exact⟨_,e⟩
 |frz ob u=>obtain⟨e,_⟩:=x;exact⟨_,e⟩
 |tbl ps=>exact⟨_,(show h.get? a=some _ from x)⟩
 |met f y=>exact⟨_,(show h.get? a=some _ from x)⟩
 |ext φ=>obtain⟨_,e,_⟩:=x;exact e
theorem HOk.free_of{P:Program}{w:World}{H:Hp}{h:Heap}{a:Addr}(x:HOk P w H h)(e:h.get? a=none):H a=none:=by
 cases q:H a with
 |none=>rfl
 |some o=>obtain⟨u,z⟩:=(x a o q).there;rw [e]at z;cases z
structure Apart(X:Cx)(pins:List (Addr×Obj))(H:Hp)(b:Addr):Prop where
 new:X.s₀.heap.get? b=none
 free:H b=none
 pin:∀p∈X.pn++pins,p.1≠b
structure qku(X:Cx)(pins:List (Addr×Obj))(H:Hp)(h:Heap)(x:Addr)(cls:Value):Prop where
 me:Apart X pins H x
 tr:∃oe vs T oT ts a0,h.get? x=some oe∧oe.cls=cls∧vs[0]? = some a0∧oe.data=.fields vs∧vs[1]? = some (.ref T)∧T≠x∧h.get? T=some oT∧oT.data=.fields ts∧ts[3]? = some .none∧Apart X pins H T
structure Fly(h₀ h:Heap)(H:Hp)(x:Addr)(cls:Value):Prop where
 new:h₀.get? x=none
 free:H x=none
 tr:∃oe vs T oT ts a0,h.get? x=some oe∧oe.cls=cls∧vs[0]? = some a0∧oe.data=.fields vs∧vs[1]? = some (.ref T)∧T≠x∧h.get? T=some oT∧oT.data=.fields ts∧ts[3]? = some .none∧h₀.get? T=none∧H T=none
noncomputable def CX1(P:Program)(w:World):CXT:=fun outer H s E e s'=>
 ∃x cls H',e=.ref x∧s'.os=s.os∧AllBare s'.gens∧Un (frs outer) [] H H' s.heap s'.heap∧HOk P w H' s'.heap∧Fly s.heap s'.heap H' x cls∧E cls none H'
section
variable{X:Cx}{pins:List (Addr×Obj)}{σ:St}{H:Hp}{s:Shared}{x T:Addr}{cls:Value}
theorem Inv.stepN{h':Heap}{t':Nat}{ch:List Addr}(I:Inv X pins σ H s)(hex:X.ex=[])(hch:∀b∈ch,Apart X pins H b∧b≠X.env.locals∧(∀x c,X.env.cells.lookup x=some c→c≠b)∧b∉X.fs)
  (keep:∀b o,b∉frs X.stack→b≠X.env.locals→b∉X.fs→b∉ch→s.heap.get? b=some o→h'.get? b=some o)
  (slot:∀b o,(b∈frs X.stack∨b=X.env.locals∨b∈X.fs)→s.heap.get? b=some o→∃sl,h'.get? b=some {o with slots:=sl}) (there:∀b o,b∉ch→s.heap.get? b=some o→∃o',h'.get? b=some o') :
  Inv X pins σ H {s with heap:=h',toks:=t'}:=by
 have sub:∀b,b∈frs X.stack→b=X.env.locals∨b∈X.fs:=fun b hb=>List.mem_cons.mp (I.stkSub b hb)
 have keep':∀b o,b≠X.env.locals→b∉X.fs→b∉ch→s.heap.get? b=some o→h'.get? b=some o:=fun b o h1 h2 h3 e=>keep b o (fun z=>(sub b z).elim h1 h2) h1 h2 h3 e
 have neL:∀b o,X.s₀.heap.get? b=some o→b≠X.env.locals:=fun b o e=>Nat.ne_of_lt (Nat.lt_of_lt_of_le (Heap.lt_size e) I.ok.above)
 have neC:∀b o,X.s₀.heap.get? b=some o→b∉ch:=fun b o e hb=>by
  have:=(hch b hb).1.new;rw [e]at this;cases this
 have cellK:∀x c,X.env.cells.lookup x=some c→∀v,s.heap.IsCell c v→h'.IsCell c v:=fun x c e v ⟨o,ho,hd⟩=>by
  have nch:c∉ch:=fun z=>(hch c z).2.2.1 x c e rfl
  by_cases hc:c∈X.fs
  ·obtain⟨sl,q⟩:=slot c o (.inr (.inr hc)) ho;exact⟨_,q,hd⟩
  ·exact⟨o,keep' c o (I.cne x c e) hc nch ho,hd⟩
 have nex:∀b,b∉X.ex:=fun b=>by rw [hex];simp
 refine⟨I.ok,I.os,I.bare,⟨fun b o e n hb hx=>?_,fun b o e n hb hx=>?_,I.base.free,fun b o e hx=>?_,I.base.tups,I.base.frzs,I.base.tbls⟩,?_,fun x c e=>?_,I.free,I.freeC,fun p hp=>?_,fun b u e=>?_,I.len⟩
 ·exact keep' b o (neL b o e) hb (neC b o e) (I.base.keep b o e n hb hx)
 ·obtain⟨sl,e1⟩:=I.base.slot b o e n hb hx;obtain⟨sl',e2⟩:=slot b _ (.inr (.inr hb)) e1;exact⟨sl',e2⟩
 ·obtain⟨o',e1⟩:=I.base.there b o e hx;exact there b o' (neC b o e) e1
 ·obtain⟨m,hn,hl⟩:=I.loc;obtain⟨oL,es,ep,hoL,hdL,r⟩:=id hn;obtain⟨sl,eL⟩:=slot _ _ (.inr (.inl rfl)) hoL;refine⟨m,⟨_,es,ep,eL,hdL,r⟩,fun i x v e1 e2 e3=>?_⟩;obtain⟨u,ru,l⟩:=hl i x v e1 e2 e3;refine⟨u,ru,?_⟩;rcases l with l|⟨k,c,e,z⟩
  ·exact .inl l
  ·exact .inr ⟨k,c,e,cellK x c e _ z⟩
 ·obtain⟨v,z⟩:=I.cell x c e;exact⟨v,cellK x c e v z⟩
 ·obtain⟨e,n,ne,nf,d⟩:=I.pin p hp;exact⟨keep' p.1 p.2 ne nf (fun z=>(hch p.1 z).1.pin p hp rfl) e,n,ne,nf,d⟩
 ·have nfr:∀b,(∃u,H b=some u)→b≠X.env.locals∧b∉X.fs∧b∉ch:=fun b ⟨u,e⟩=>by
   refine⟨fun z=>?_,fun z=>?_,fun z=>?_⟩
   ·rw [z,I.free]at e;cases e
   ·obtain⟨_,o,ho,_⟩:=I.ok.funs.mem z;have:=I.base.free b o ho (I.ok.frf b z) (nex b);rw [e]at this;cases this
   ·have:=(hch b z).1.free;rw [e]at this;cases this
  refine(I.hok b u e).stay (fun c v hc q=>?_) (fun _ q=>q) fun _ _ q=>q
  have hc':∃u,H c=some u:=by
   rcases hc with z|z
   ·exact⟨u,by rw [z];exact e⟩
   ·exact⟨_,z⟩
  obtain⟨n1,n2,n3⟩:=nfr c hc';exact keep' c v n1 n2 n3 q
theorem Inv.rec_ne(I:Inv X pins σ H s){b:Addr}{o:Obj}{vs:Array Value}(e:s.heap.get? b=some o)(d:o.data=.fields vs):b≠X.env.locals∧(∀x c,X.env.cells.lookup x=some c→c≠b)∧b∉X.fs∧b∉frs X.stack:=by
 have h1:b≠X.env.locals:=fun z=>by
  obtain⟨m,⟨o',es,ep,ho,hd,_⟩,_⟩:=I.loc;rw [←z,e]at ho;cases ho;rw [d]at hd;cases hd
 have h3:b∉X.fs:=fun z=>by
  obtain⟨_,o',ho,hn⟩:=I.funs.mem z;rw [e]at ho;cases ho;exact hn vs d
 refine⟨h1,fun x c ec z=>?_,h3,fun z=>(List.mem_cons.mp (I.stkSub b z)).elim h1 h3⟩;obtain⟨v,o',ho,hd⟩:=I.cell x c ec;rw [z,e]at ho;cases ho;rw [d]at hd;cases hd
theorem qku.flying(I:Inv X pins σ H s)(F:qku X pins H s.heap x cls):∃T oT ts a0,Heap.FlyingW (PySem.W.hideAll s.heap (x::T::frs X.stack)) X.stack x cls a0 s.heap∧s.heap.get? T=some oT∧oT.data=.fields ts∧Apart X pins H T:=by
 obtain⟨oe,vs,T,oT,ts,a0,e1,e2,e3,e4,e5,e6,e7,e8,e9,e10⟩:=F.tr;refine⟨T,oT,ts,a0,⟨fun b o q=>PySem.W.of_hideAll _ q,PySem.W.hideAll_none _ List.mem_cons_self,?_,oe,vs,T,oT,ts,e1,⟨e2,e3⟩,e4,e5,PySem.W.hideAll_none _ (List.mem_cons_of_mem _ List.mem_cons_self),e6,e7,e8,e9⟩,e7,e8,e10⟩;exact PySem.W.funFrames_hide I.stack fun env he a ha=>List.mem_cons_of_mem _ (List.mem_cons_of_mem _ (List.mem_filterMap.mpr ⟨env,he,ha⟩))
theorem qku.back(I:Inv X pins σ H s)(hex:X.ex=[])(me:Apart X pins H x){ox:Obj}{vs:Array Value}(hx:s.heap.get? x=some ox)(hxd:ox.data=.fields vs){oT:Obj}{ts:Array Value}(hT:s.heap.get? T=some oT)(hTd:oT.data=.fields ts)(aT:Apart X pins H T)
  {l:List Env}{a0:Value}{h':Heap} (W:Heap.FlyingW (PySem.W.hideAll s.heap (x::T::frs X.stack)) l x cls a0 h') (u:s.heap.UpToSlots h') :
  Inv X pins σ H {s with heap:=h'}∧qku X pins H h' x cls:=by
 obtain⟨w1,w2,w3,oe',vs',T',oT',ts',f1,⟨f2,f3⟩,f4,f5,f6,f7,f8,f9,f10⟩:=W;obtain⟨nx1,nx2,nx3,nx4⟩:=I.rec_ne hx hxd;obtain⟨nt1,nt2,nt3,nt4⟩:=I.rec_ne hT hTd;have frd:∀b o,(b∈frs X.stack∨b=X.env.locals∨b∈X.fs)→s.heap.get? b=some o→∀ws,o.data≠.fields ws:=fun b o hb e ws d=>by
  obtain⟨n1,n2,n3,n4⟩:=I.rec_ne e d;rcases hb with z|z|z
  ·exact n4 z
  ·exact n1 z
  ·exact n3 z
 have nch:∀b,b∉[x,T]→b∉frs X.stack→b∉(x::T::frs X.stack):=fun b h1 h2 h3=>by
  rcases List.mem_cons.mp h3 with z|h3
  ·exact h1 (by simp [z])
  ·rcases List.mem_cons.mp h3 with z|h3
   ·exact h1 (by simp [z])
   ·exact h2 h3
 refine⟨?_,me,oe',vs',T',oT',ts',a0,f1,f2,f3,f4,f5,f7,f8,f9,f10,?_⟩
 ·refine I.stepN (t':=s.toks) (ch:=[x,T]) hex (fun b hb=>?_) (fun b o h1 h2 h3 h4 e=>w1 b o (PySem.W.hideAll_get _ e (nch b h4 h1))) (fun b o hb e=>u b o e (frd b o hb e)) fun b o h4 e=>?_
  ·rcases List.mem_cons.mp hb with z|hb
   ·subst z;exact⟨me,nx1,nx2,nx3⟩
   ·have z:b=T:=by simpa using hb
    subst z;exact⟨aT,nt1,nt2,nt3⟩
  ·by_cases hb:b∈frs X.stack
   ·obtain⟨sl,q⟩:=u b o e (frd b o (.inl hb) e);exact⟨_,q⟩
   ·exact⟨o,w1 b o (PySem.W.hideAll_get _ e (nch b h4 hb))⟩
 ·by_cases hTT:T'=T
  ·rw [hTT];exact aT
  ·by_cases hTf:T'∈frs X.stack
   ·obtain⟨_,o,ho,hn⟩:=I.stack.mem hTf;obtain⟨sl,q⟩:=u T' o ho hn;rw [q]at f8;have z:({o with slots:=sl}:Obj)=oT':=Option.some.inj f8;subst z;exact absurd f9 (hn ts')
   ·have hnone:s.heap.get? T'=none:=by
     cases q:s.heap.get? T' with
     |none=>rfl
     |some o=>
      have:(PySem.W.hideAll s.heap (x::T::frs X.stack)).get? T'=some o:=PySem.W.hideAll_get _ q (nch T' (by simp [f7,hTT]) hTf);rw [f6]at this;cases this
    refine⟨?_,I.hok.free_of hnone,fun p hp z=>?_⟩
    ·cases q:X.s₀.heap.get? T' with
     |none=>rfl
     |some o=>
      obtain⟨o',e'⟩:=I.base.there T' o q (by rw [hex];simp);rw [hnone]at e';cases e'
    ·have:=(I.pin p hp).1;rw [z,hnone]at this;cases this
theorem qpN{P:Program}{w:World}(hP:X.prog=P)(hw:X.w=w)(I:Inv X pins σ H s)(hex:X.ex=[]){E:XK}{e:Value}{s':Shared}(h:CX1 P w X.stack H s E e s') :
  ∃x cls H',e=.ref x∧Inv X pins σ H' s'∧qku X pins H' s'.heap x cls∧E cls none H':=by
 subst hP hw;obtain⟨x,cls,H',rfl,os,bare,un,hok,F,q⟩:=h;have ap:∀b,s.heap.get? b=none→H' b=none→Apart X pins H' b:=fun b h1 h2=>by
  refine⟨?_,h2,fun p hp z=>?_⟩
  ·cases q:X.s₀.heap.get? b with
   |none=>rfl
   |some o=>
    obtain⟨o',e'⟩:=I.base.there b o q (by rw [hex];simp);rw [h1]at e';cases e'
  ·have:=(I.pin p hp).1;rw [z,h1]at this;cases this
 obtain⟨oe,vs,T,oT,ts,a0,e1,e2,e3,e4,e5,e6,e7,e8,e9,e10,e11⟩:=F.tr;exact⟨x,cls,H',rfl,I.call' (ch:=[]) os un hok bare (fun b z=>absurd z (by simp)),⟨ap x F.new F.free,oe,vs,T,oT,ts,a0,e1,e2,e3,e4,e5,e6,e7,e8,e9,ap T e10 e11⟩,q⟩
theorem qku.leaves(I:Inv X pins σ H s)(hex:X.ex=[]){env:Env}{outer:List Env}(hst:X.stack=X.env::X.outer)(hfr:X.env.frame=some X.env.locals)(F:qku X pins H s.heap x cls){E:XK}(q:E cls none H)
  {EE:Value→Shared→Prop}:wpAny (model X.prog X.w) X.A (leaving X.env (.ref x)) (fun _ s''=>CX1 X.prog X.w X.outer X.H₀ X.s₀ E (.ref x) s'') EE s:=by
 obtain⟨oe,vs,_,_,_,_,e1,_,_,e4,_⟩:=id F.tr;obtain⟨T,oT,ts,a0,W,hT,hTd,aT⟩:=qku.flying I F;have hfrm:=I.ok.frames;rw [hst]at hfrm W;refine wpAny_leaves_onW hfrm hfr W fun h' W' u=>?_
 rw [←hst]at W';obtain⟨I',F'⟩:=qku.back I hex F.me e1 e4 hT hTd aT W' u;obtain⟨oe',vs',T',oT',ts',a0',f1,f2,f3,f4,f5,f6,f7,f8,f9,f10⟩:=F'.tr;have hb:=I'.base;rw [hex]at hb;exact⟨x,cls,H,rfl,I'.os,I'.bare,hb,I'.hok,⟨F'.me.new,F'.me.free,oe',vs',T',oT',ts',a0',f1,f2,f3,f4,f5,f6,f7,f8,f9,f10.new,f10.free⟩,q⟩
end
section
variable{P:Program}{w:World}{K:PySem.W.Frag}{mg:Str→Option Value}{base:Heap}{N:List Str}{qual:Str}{scope:Scope}{f:Addr}{cd:Value}{A:Around}{outer:List Env}{s₀:Shared}{H₀:Hp}{E:XK}
theorem qtm:Passes (CX1 P w) (qdy (CX1 P w) P w K mg base N qual scope f cd A outer s₀ H₀ E) E:=by
 intro pins σ H s e s' I h;obtain⟨x,cls,H',rfl,I',F,q⟩:=qpN rfl rfl I rfl h;exact qku.leaves (env:=(qdy (CX1 P w) P w K mg base N qual scope f cd A outer s₀ H₀ E).env) (outer:=outer) I' rfl rfl rfl F q
theorem qls{X:Cx}(hP:X.prog=P)(hw:X.w=w):Passes (CX1 P w) X E0:=by
 intro pins σ H s e s' I h;obtain⟨x,cls,H',rfl,_,_,_,_,_,q⟩:=h;exact q.elim
noncomputable def Throws(X:Cx)(E:XK):Prop:=∀(pins:List (Addr×Obj)) (σ:St) (H:Hp) (s:Shared) (h':Heap) (e:Addr) (cls:Value) (args:List Value),Inv X pins σ H s→Heap.MadeExcOf s.heap h' e cls args→E cls none H→X.xe (.ref e) {s with heap:=h'}
end
abbrev qel:List Value:=[.type "ValueError",.type "Exception",.type "BaseException",.type "object"]
noncomputable def qlm(K:PySem.W.Frag)(C:Addr):Prop:=PySem.W.excIn K C qel "ValueError.__new__" = true
section
variable{X:Cx}{C:Addr}{x:Str}{E:XK}{t:TA}{e:Expr}{es:List Expr}{np cpos pos:Pos}
end
structure qfB(k:Nat)(A:Around):Prop where
 dp:A.depth+3 * k+5<recursionLimit
 un:A.units+16 * k+200<cLine
theorem qbi.u{k:Nat}{A:Around}(r:qbi k A):qfB k A:=⟨r.dp,r.un⟩
structure qjx(P:Program)(w:World)(K:PySem.W.Frag)(mg:Str→Option Value)(base:Heap)(CX:CXT)(k:Nat)(f:Addr)(fd:FuncData)(ps:List Str)(sp:Sp):Prop where
 len:∀vs H Q E,sp vs H Q E→vs.length=ps.length
 run:∀(A:Around) (outer:List Env) (s:Shared) (H:Hp) (args:Args) (us:List Value) (vs:List V) (Q:VK) (E:XK),qfB k A→qhu P w K mg base A outer s H→BindsTo s fd args (ps.zip us)→Vals vs us→sp vs H Q E →
  codeAny (model P w) A (.call (.ref f) args) (CR CX outer P w H s Q E) s
section
variable{CX:CXT}{P:Program}{w:World}{K:PySem.W.Frag}{mg:Str→Option Value}{base:Heap}{k:Nat}{f:Addr}{fd:FuncData}{ps:List Str}{sp:Sp}
end
section
variable{X:Cx}{CX:CXT}{k:Nat}{f:Addr}{fd:FuncData}{ps:List Str}{sp:Sp}{dvs:List V}{ds:List Value}{E:XK}{x:Str}{p pos:Pos}{e:Expr}{es:List Expr}{t:TA}
theorem qpq{pins:List (Addr×Obj)}{σ:St}{H:Hp}{s:Shared}{Q:VK}{us:List Value}{vs:List V}(F:qjx X.prog X.w X.K X.mg X.base CX k f fd ps sp)(hr:qfB k X.A)(hb:Binds X.K fd ps ds)(hd:Vals dvs ds)(hx:Passes CX X E)
  (I:Inv X pins σ H s) (r:Vals vs us) (h:sp (vs++dvs) H Q E):wpAny (model X.prog X.w) X.A (call (.ref f) us) (EP X pins σ Q) X.xe s:=by
 have r2:Vals (vs++dvs) (us++ds):=r.append hd;have hl:(us++ds).length=ps.length:=by rw [←r2.length];exact F.len _ _ _ _ h
 refine wpAny_call (codeAny_mono (F.run X.A X.stack s H ⟨us,[]⟩ (us++ds) (vs++dvs) Q E hr I.env0 (hb s us I.kIn hl) r2 h) fun r s' hq=>?_);cases r with
 |error e=>exact hx pins σ H s e s' I hq
 |ok fl=>
  cases fl with
  |ret u=>exact I.after hq
  |next=>exact False.elim hq
  |brk=>exact False.elim hq
  |cont=>exact False.elim hq
theorem qmE(F:qjx X.prog X.w X.K X.mg X.base CX k f fd ps sp)(hr:qfB k X.A)(hg:Gl X x)(hm:X.mg x=some (.ref f))(hk:PySem.W.keepIn X.K (.ref f)=true)(hb:Binds X.K fd ps ds)(hd:Vals dvs ds)(hx:Passes CX X E)
  (ha:PA X (e::es) t) (hdb:(x==("__debug__" : Str))=false:=by decide) (he:starEach (e::es) X.env=(false,eval e X.env)::starEach es X.env:=by rfl) (hpl:(backTo pos (starEach es X.env)).any (·.1)=false:=by rfl) :
  PE X (.Call (.Name x p) (e::es) [] pos) (qjw sp dvs E t):=by
 intro pins s σ H Q I h;refine wpAny_Call_Name_kw (qfZ I hg hm ?_ hdb);refine PySem.W.callWith_K (h₀:=X.base) I.ok.mod.kin hk (thn (ha pos pins s σ H _ I h) fun us s1 ⟨vs,H1,I1,r,q⟩=>⟨I1.kIn,?_⟩) he hpl;exact qpq F hr hb hd hx I1 r q
end
noncomputable def qmu(x:Addr)(cls:Value):HO:=.ext fun h=>∃o vs,h.get? x=some o∧o.cls=cls∧o.data=.fields vs
section
variable{X:Cx}{pins:List (Addr×Obj)}{σ:St}{H:Hp}{s:Shared}
end
end L2
namespace L2
open PySem PySem.Spec PyProof.Rows PySem.W PySem.Calls Builtin Builtin.ObjectAttr Builtin.Getset_descriptor
structure qaI(K:Frag)(C:Addr):Prop where
 ga:findIn K (.ref C) "__getattribute__" = some (some (.builtin "BaseException.__getattribute__"))
 gt:findIn K (.ref C) "__getattr__" = some none
 gc:findIn K (.ref C) "__class__" = some (some (.builtin "object.__class__"))
 mb:mroIn K C (.type "BaseException")=some true
 mo:mroIn K C (.type "object")=some true
 cl:∃c dd cd sl,K.lookup C=some ⟨c,dd,.cls cd,sl⟩
section
variable{prog:Program}{w:World}{A:Around}{E:Value→Shared→Prop}{h:Heap}{g:Array GenState}{d:Drawn}{t:Nat}{os:OsState}{x C:Addr}{K:Frag}
theorem qgK{R:Result→Shared→Prop}{tp:Value}(Z:K.In h)(S:qaI K C)(L0:Looks (model prog w) h (typeOf (.ref x)) (.ref C))(hx:∃o,h.get? x=some o∧o.cls=.ref C)(hq:R (.ok (.ret (.ref C))) ⟨h,g,d,t,os⟩) :
  codeAny (model prog w) A (.call (.builtin "getset_descriptor.__get__") ⟨[.builtin "object.__class__",.ref x,tp],[]⟩) R ⟨h,g,d,t,os⟩:=by
 have L1:=looks_mroIn (M:=model prog w) Z S.mo;obtain⟨o,ho,hc⟩:=hx;refine codeAny_call_builtin KF.slot_gs.plain KF.entry_gs (KF.slot_gs.check _ _ _ _ _ _ _ _ KF.type_class (KF.args_gs _ _ _) ?_);unfold Builtin.«getset_descriptor.__get__» descrGet;rw [dga_obj];refine wpAny_bind (wpAny_pure ?_);unfold descrGetter descrCheckInstance descrNameAndClass isInstance;simp only [KF.owner_class]
 repeat lk
 refine⟨Code.quiet_builtin _ (by decide +kernel),codeAny_builtin KF.entry_class ?_⟩;unfold Builtin.«object.__class__» shownTypeOf
 repeat lk
 exact hq
theorem qhG{M:Model}{nameV:Value}{Q:Unit→Shared→Prop}(Z:K.In h)(S:qaI K C)(L0:Looks M h (typeOf (.ref x)) (.ref C))(hq:Q () ⟨h,g,d,t,os⟩) :
  wpAny M A (checkBuiltinCall "BaseException.__getattribute__" ⟨[.ref x,nameV],[]⟩) Q E ⟨h,g,d,t,os⟩:=by
 have hk:builtinKind "BaseException.__getattribute__" = some .slot:=by decide +kernel
 have hsplit:splitId "BaseException.__getattribute__" = some ("BaseException","__getattribute__"):=by decide +kernel
 have L1:=looks_mroIn (M:=M) Z S.mb;have ha:=F.args_bexc_ga (.ref x) nameV;simp only [checkBuiltinCall,hk,hsplit];refine wpAny_bind ?_;unfold isInstance
 repeat (first|assumption|lk|wp_step)
theorem qlD{tk:Tok}{Q:Fin→Shared→Prop}(Z:K.In h)(S:qaI K C)(L0:Looks (model prog w) h (typeOf (.ref x)) (.ref C))(hx:∃o,h.get? x=some o∧o.cls=.ref C)(hq:Q (.done (.ret (.ref C))) ⟨h,g,d,t,os⟩) :
  wpAny (model prog w) A (Builtin.«object.__getattribute__» ⟨[.ref x,.str "__class__" tk],[]⟩) Q E ⟨h,g,d,t,os⟩:=by
 have hT5:(⟨h,g,d,t,os⟩:Shared).TypeIs (.builtin "object.__class__") "getset_descriptor":=F.typeOf_object_class;have L2:=looks_findIn (M:=model prog w) Z S.gc;have f5:=F.typeOf_object_class;have f6:=F.slot_gs_get.lookup;have f7:=F.slot_gs_set.lookup
 repeat (any_goals (first|assumption|with_reducible refine L0.at ?_|with_reducible refine wpAny_bind (L0.at ?_)|with_reducible refine L2.at ?_|with_reducible refine wpAny_bind (L2.at ?_)|wp_step))
 refine qgK Z S L0 hx ?_
 repeat (any_goals (first|assumption|wp_step))
theorem qsj{tk:Tok}{Q:Value→Shared→Prop}(Z:K.In h)(S:qaI K C)(L0:Looks (model prog w) h (typeOf (.ref x)) (.ref C))(hx:∃o,h.get? x=some o∧o.cls=.ref C)(hq:Q (.ref C) ⟨h,g,d,t,os⟩) :
  wpAny (model prog w) A (getAttrBy (.ref x) (.str "__class__" tk) false) Q E ⟨h,g,d,t,os⟩:=by
 have f3:=F.attr_ValueError.ga.bind (.ref x);have hx2:(Value.builtin "BaseException.__getattribute__" == Value.builtin "object.__getattribute__")=false:=by decide +kernel
 have hx1:(onTheHeap (Value.ref C)&&Value.builtin "BaseException.__getattribute__" == Value.builtin "object.__getattribute__")=false:=by rw [hx2];rfl
 have L2:=looks_findIn (M:=model prog w) Z S.ga;have L3:=looks_findIn (M:=model prog w) Z S.gt
 repeat (any_goals (first|assumption|with_reducible refine L0.at ?_|with_reducible refine wpAny_bind (L0.at ?_)|with_reducible refine L2.at ?_|with_reducible refine wpAny_bind (L2.at ?_)|with_reducible refine L3.at ?_|with_reducible refine wpAny_bind (L3.at ?_)|wp_step))
 refine codeAny_call_builtin F.attr_ValueError.ga.plain F.entry_bexc_ga (qhG Z S L0 (qlD Z S L0 hx ?_))
 repeat (any_goals (first|assumption|wp_step))
theorem qnR{Q:Option Value→Shared→Prop}(Z:K.In h)(S:qaI K C)(L0:Looks (model prog w) h (typeOf (.ref x)) (.ref C))(hx:∃o,h.get? x=some o∧o.cls=.ref C)(hq:Q (some (.ref C)) ⟨h,g,d,t+1,os⟩) :
  wpAny (model prog w) A (getAttr? (.ref x) "__class__") Q E ⟨h,g,d,t,os⟩:=by
 unfold getAttr? getAttrBy?
 repeat (any_goals (first|assumption|with_reducible apply qsj Z S L0 hx|wp_step))
end
end L2
namespace L2
open PySem PySem.Spec PyProof.Rows
structure quD(prog:Program)(w:World)(xs:Array Value)(i l:Addr)(P:Nat→Heap→Prop):Prop where
 fr:∀k h h',P k h→(∀o,h.get? i=some o→h'.get? i=some o)→(∀o,h.get? l=some o→h'.get? l=some o)→P k h'
 nx:∀{A:Around} (k:Nat) (x:Value) (s:Shared) (Q:Value→Shared→Prop) (E:Value→Shared→Prop),P k s.heap→xs[k]? = some x→(∀h',P (k+1) h'→Heap.SameBut i s.heap h'→Q x {s with heap:=h'})→wpAny (model prog w) A (Builtin.SmallTypes.nextOf (.ref i)) Q E s
 en:∀{A:Around} (k:Nat) (s:Shared) (Q:Value→Shared→Prop) (E:Value→Shared→Prop),A.handled=none→P k s.heap→xs[k]? = none →
  (∀h' e,Heap.ExtBut i s.heap h'→(∃o,h'.get? e=some o∧o.cls=.type "StopIteration")→E (.ref e) {s with heap:=h'})→wpAny (model prog w) A (Builtin.SmallTypes.nextOf (.ref i)) Q E s
 at_:∀k h,P k h→∃o,h.get? i=some o∧∃vs,o.data=.fields vs
section
variable{prog:Program}{w:World}{A:Around}{E:Value→Shared→Prop}{s:Shared}
end
section
variable{prog:Program}{w:World}{A:Around}{E:Value→Shared→Prop}{s:Shared}{z TI TO i1 i2 l1 l2:Addr}{k:Nat}{xs ys:Array Value}{P1 P2:Nat→Heap→Prop}
structure ZAp(z TI TO i1 i2 l1 l2:Addr):Prop where
 d:ZipApart z TI TO i1 i2 l1 l2
end
section
variable{X:Cx}{pins:List (Addr×Obj)}{σ:St}{H:Hp}{s:Shared}{h':Heap}{tk:Nat}
theorem Inv.turnNew{ch:List Addr}{p:Addr}{vs:List V}{its:List Value}(I:Inv X pins σ H s)(hf:∀b∈ch,qbz X pins H b)(k:∀b o,b∉ch→s.heap.get? b=some o→h'.get? b=some o)
  (hp:s.heap.objs.size≤p) (ht:IsTup h' p its.toArray) (r:Vals vs its) (hz:vs.length≤sizeLine):Inv X pins σ (upd H p (.tup vs)) {s with heap:=h',toks:=tk}:=by
 have hpn:H p=none:=I.hok.fresh hp;have nch:∀b u,H b=some u→b∉ch:=fun b u e z=>by have:=(hf b z).1;rw [e]at this;cases this
 have np:∀b u,H b=some u→b≠p:=fun b u e z=>by rw [z,hpn]at e;cases e
 refine I.step (g':=s.gens) (d':=s.drawn) (ch:=ch) (fun b hb=>?_) (fun b o _ _ hc e _=>k b o hc e) (fun b o _ _ hc e _=>⟨o.slots,k b o hc e⟩) (fun b o hc e n=>?_) (fun b o hc e=>⟨o,k b o hc e⟩)
  (fun b xs e=>by rw [qt (np b _ e)];exact e) (fun b o u e=>by rw [qt (np b _ e)];exact e) (fun b ps e=>⟨#[],by rw [qt (np b _ e),e];simp⟩) (fun m hm=>?_) (fun b u e=>?_) I.bare
 ·obtain⟨f0,f1,f2,f3,f4,f5⟩:=hf b hb;exact⟨f3,f1,f4,f5⟩
 ·rw [qt (Nat.ne_of_lt (Nat.lt_of_lt_of_le (Heap.lt_size e) hp))];exact n
 ·obtain⟨o,es,ep,ho,r⟩:=hm;exact⟨o,es,ep,k _ o (fun z=>(hf _ z).2.1 rfl) ho,r⟩
 ·by_cases hb:b=p
  ·subst hb;rw [zq]at e;cases e;exact⟨hz,its,r,ht⟩
  ·rw [qt hb]at e;refine(I.hok b u e).stay (fun c v hc q=>k c v ?_ q) (fun c q=>by rw [qt (np c _ q)];exact q) fun c xs q=>by rw [qt (np c _ q)];exact q
   rcases hc with z|z
   ·rw [z];exact nch b u e
   ·exact nch c _ z
theorem Inv.turnAll{ch:List Addr}(I:Inv X pins σ H s)(hf:∀b∈ch,qbz X pins H b)(k:∀b o,b∉ch→s.heap.get? b=some o→h'.get? b=some o):Inv X pins σ H {s with heap:=h',toks:=tk}:=by
 have nch:∀b u,H b=some u→b∉ch:=fun b u e z=>by have:=(hf b z).1;rw [e]at this;cases this
 refine I.step (g':=s.gens) (d':=s.drawn) (ch:=ch) (fun b hb=>?_) (fun b o _ _ hc e _=>k b o hc e) (fun b o _ _ hc e _=>⟨o.slots,k b o hc e⟩) (fun b o hc e n=>n) (fun b o hc e=>⟨o,k b o hc e⟩)
  (fun b xs e=>e) (fun b o u e=>e) (fun b ps e=>⟨#[],by rw [e];simp⟩) (fun m hm=>?_) (fun b u e=>?_) I.bare
 ·obtain⟨f0,f1,f2,f3,f4,f5⟩:=hf b hb;exact⟨f3,f1,f4,f5⟩
 ·obtain⟨o,es,ep,ho,r⟩:=hm;exact⟨o,es,ep,k _ o (fun z=>(hf _ z).2.1 rfl) ho,r⟩
 ·refine(I.hok b u e).stay (fun c v hc q=>k c v ?_ q) (fun c q=>q) fun c xs q=>q
  rcases hc with z|z
  ·rw [z];exact nch b u e
  ·exact nch c _ z
end
section
variable{prog:Program}{w:World}{A:Around}{E:Value→Shared→Prop}{s:Shared}
end
theorem qmY{K:PySem.W.Frag}{x C:Addr}(S:qaI K C):PySem.W.KitX K (.ref x) (.ref C) (fun h=>∃o,h.get? x=some o∧o.cls=.ref C) where
 ty:=fun M h _ ⟨o,e,c⟩=>c▸(PySem.W.Looks.ld e).andThen .now
 it:=fun _ _ Z _=>by
  obtain⟨c,dd,cd,sl,e⟩:=S.cl;intro A' Q' E' s' k q;unfold isType loadHead;exact wpAny_bind (wpAny_loadPart (k _ _ (Z _ _ e)) (wpAny_pure q))
 ne:=fun h tp dd its n sl Z htp=>by
  obtain⟨c,dd',cd,sl',e⟩:=S.cl;refine Bool.eq_false_iff.mpr fun q=>?_
  have e1:C=tp:=Value.ref.inj (beq_iff_eq.mp q);subst e1;have z:=(Z _ _ e).symm.trans htp;cases z
 ca:=fun {prog w A E Q s} Z ⟨o,e,c⟩ k=>by
  obtain⟨hh,g,d,t,os⟩:=s;exact qnR Z S (c▸(PySem.W.Looks.ld e).andThen .now) ⟨o,e,c⟩ k
noncomputable def qmy:V→Option Value
 | .ty n=>some (.type n)
 | .ref a=>some (.ref a)
 |_=>none
noncomputable def TyX(K:PySem.W.Frag)(H:Hp)(x:V)(t:Value):Prop:=qbw K H x t∨∃a C,x=.ref a∧t=.ref C∧H a=some (qmu a (.ref C))∧qaI K C
theorem qnl{X:Cx}:qz X (.builtin "isinstance") (fun xs H Q=>∃x c cv t b,xs=[x,c]∧qmy c=some cv∧TyX X.K H x t∧PySem.W.kitOne X.K t cv=some b∧Q (.bl b) H):=by
 intro pins s σ H xs us Q I r h;obtain⟨x,c,cv,t,b,rfl,hc,ty,hk,q⟩:=h;obtain⟨u,cu,rfl,rx,rc⟩:=r.two;have e:cu=cv:=by
  cases c with
  |ty n=>cases hc;exact rc
  |ref a=>cases hc;exact rc
  |_=>cases hc
 subst e;rcases ty with ty|⟨a,C,rfl,rfl,ha,S⟩
 ·exact qba I rx ty hk fun tk=>⟨.bl b,H,I.tok tk,rfl,q⟩
 ·cases rx;obtain⟨⟨o,vs,e1,e2,e3⟩,_⟩:=(show zM X.prog X.w H s.heap a (qmu a (.ref C))from I.hok a _ ha)
  exact PySem.W.kia_one (qmY S) I.kIn ⟨o,e1,e2⟩ hk (fun z=>nomatch z) fun tk=>⟨.bl b,H,I.tok tk,rfl,q⟩
theorem qqn{K:PySem.W.Frag}{T:String}:PySem.W.kitOne K (.type T) (.type T)=some true:=by unfold PySem.W.kitOne;rw [if_pos (by simp)]
theorem qrb{K:PySem.W.Frag}{a T:String}{b:Bool}(hne:(Value.type a==Value.type T)=false)(hm:PySem.W.kitMeta T=true)(hf:(fastBuiltinMro a).map (·.contains (.type T))=some b):PySem.W.kitOne K (.type a) (.type T)=some b:=by
 unfold PySem.W.kitOne PySem.W.kitCls PySem.W.subIn;rw [if_neg (by rw [hne];exact Bool.false_ne_true)];dsimp only;rw [if_pos hm];exact hf
noncomputable def qeU(a T:String):Bool:=a==T||(a == "bool" && T == "int")
theorem qqt{K:PySem.W.Frag}{a T:String}(ha:a∈["NoneType","bool","int","str","list","tuple","dict"])(hT:T∈["int","bool","str","list","tuple"]):PySem.W.kitOne K (.type a) (.type T)=some (qeU a T):=by
 simp only [List.mem_cons,List.not_mem_nil,or_false]at ha hT;rcases ha with rfl|rfl|rfl|rfl|rfl|rfl|rfl<;>rcases hT with rfl|rfl|rfl|rfl|rfl<;>first|exact qqn|exact qrb (by decide +kernel) (by decide +kernel) (by decide +kernel)
noncomputable def ltP(p q:Int×Int):Bool:=if p.1=q.1 then decide (p.2<q.2)else decide (p.1<q.1)
section
variable{prog:Program}{w:World}{A:Around}{E:Value→Shared→Prop}{s:Shared}
end
theorem qpI{h:Heap}{a:Addr}{m m':Str→Option Value}(x:h.Ns a m)(y:h.Ns a m'):m=m':=by
 obtain⟨o,es,ep,e1,e2,_,e4⟩:=x;obtain⟨o',es',ep',f1,f2,_,f4⟩:=y;rw [e1]at f1;cases f1;rw [e2]at f2;cases f2;funext n;rw [←e4,←f4]
theorem Inv.newList{X:Cx}{pins:List (Addr×Obj)}{σ:St}{H:Hp}{s s':Shared}{D:Addr}{out:List V}{its:List Value}{c:Nat}(I:Inv X pins σ H s)(hos:s'.os=s.os)(hg:s'.gens=s.gens)
  (k:∀b o,b≠X.env.locals→s.heap.get? b=some o→s'.heap.get? b=some o) (ns:∀m,s.heap.Ns X.env.locals m→s'.heap.Ns X.env.locals m) (hD:s.heap.get? D=none) (hDL:D≠X.env.locals)
  (hl:s'.heap.get? D=some {cls:=.type "list",data:=.seq its.toArray c}) (r:Vals out its) (hz:out.length≤sizeLine):Inv X pins σ (upd H D (.lst out)) s':=by
 obtain⟨h',g',d',t',o'⟩:=s';have eo:o'=s.os:=hos;have eg:g'=s.gens:=hg;subst eo eg;have hpn:H D=none:=I.hok.free_of hD;have np:∀b u,H b=some u→b≠D:=fun b u e z=>by rw [z,hpn]at e;cases e
 obtain⟨m0,n0,_⟩:=id I.loc;obtain⟨oL,es,ep,hoL,_⟩:=id n0;obtain⟨oL',es',ep',hoL',_⟩:=ns _ n0;refine I.step (g':=s.gens) (d':=d') (ch:=[]) (fun b hb=>absurd hb (by simp)) (fun b o hL _ _ e _=>k b o hL e) (fun b o hL _ _ e _=>⟨o.slots,k b o hL e⟩) (fun b o _ e n=>?_) (fun b o _ e=>?_)
  (fun b xs e=>by rw [qt (np b _ e)];exact e) (fun b o u e=>by rw [qt (np b _ e)];exact e) (fun b ps e=>⟨#[],by rw [qt (np b _ e),e];simp⟩) ns (fun b u e=>?_) I.bare
 ·rw [qt (fun z=>by rw [z,hD]at e;cases e)];exact n
 ·by_cases hL:b=X.env.locals
  ·exact⟨oL',by rw [hL];exact hoL'⟩
  ·exact⟨o,k b o hL e⟩
 ·by_cases hb:b=D
  ·subst hb;rw [zq]at e;cases e;exact⟨hz,its,c,r,hl⟩
  ·rw [qt hb]at e;have nl:∀c,(∃u,H c=some u)→c≠X.env.locals:=fun c ⟨u,e⟩ z=>by rw [z,I.free]at e;cases e
   refine(I.hok b u e).stay (fun c v hc q=>k c v (nl c ?_) q) (fun c q=>by rw [qt (np c _ q)];exact q) fun c xs q=>by rw [qt (np c _ q)];exact q
   rcases hc with z|z
   ·exact⟨u,by rw [z];exact e⟩
   ·exact⟨_,z⟩
section
variable{prog:Program}{w:World}{A:Around}{E:Value→Shared→Prop}{s:Shared}
theorem qfm{a:Addr}{vs:List Value}{P:Fin→Shared→Prop}(hoL:s.heap.get? a=some (seqObj "list" vs.toArray 0))(h2:vs.length<2)(h:P (.done (.ret .none)) {s with heap:=sortedHeap s.heap a vs vs.toArray}) :
  wpAny (model prog w) A (Builtin.«list.sort» ⟨[.ref a],[]⟩) P E s:=by
 rw [list_sort_plain];refine wpAny_bind (listItems_at  hoL rfl ?_);refine wpAny_bind (listUpdate_at  hoL rfl ?_ (by rw [List.size_toArray,sizeLine_eq];lia) (Nat.zero_le _));obtain⟨e1,ho1⟩:∃e1,(s.heap.update a (Obj.mapSeq fun _=>#[])).get? a=some (seqObj "list" #[] e1):=⟨_,get?_update_seq hoL (fun _=>#[])⟩
 refine wpAny_bind (seqEpoch_at ho1 rfl ?_);refine wpAny_bind (wpAny_newTuple ?_ (by show vs.length≤_;rw [sizeLine_eq];lia));refine wpAny_bind (wpAny_newList ?_ (Nat.zero_le _));refine wpAny_holding ?_;have hlt:a<s.heap.objs.size:=Heap.lt_size hoL;have ho6:(((s.heap.update a (Obj.mapSeq fun _=>#[])).push (seqObj "tuple" vs.toArray 0)).push (seqObj "list" #[] 0)).get? a=some (seqObj "list" #[] e1):=by
  rw [Heap.get?_push_ne _ _ _ (by rw [size_push',Heap.size_update];exact Nat.ne_of_lt (Nat.lt_succ_of_lt hlt)),Heap.get?_push_ne _ _ _ (by rw [Heap.size_update];exact Nat.ne_of_lt hlt)];exact ho1
 show wpAny (model prog w) _ _ _ _ {s with heap:=((s.heap.update a (Obj.mapSeq fun _=>#[])).push (seqObj "tuple" vs.toArray 0)).push (seqObj "list" #[] 0)};dsimp only;have h2':vs.toArray.size<2:=by rw [List.size_toArray];exact h2
 rw [if_pos h2',if_pos h2'];refine wpAny_bind (wpAny_pure ?_);rw [StateT.run_pure];refine wpAny_bind (wpAny_pure ?_);dsimp only;refine wpAny_bind (seqEpoch_at ho6 rfl ?_);have hout:(arrOf (SortSt.mk' general' (vs.toArray.zip vs.toArray) #[] 7 none)).map (·.2)=vs.toArray:=by
  show (vs.toArray.zip vs.toArray).map (·.2)=vs.toArray;apply Array.toList_inj.mp;simp [List.map_snd_zip]
 refine wpAny_bind (listUpdate_at ho6 rfl ?_ (Nat.zero_le _) (by rw [hout,List.size_toArray,sizeLine_eq];lia));simp only [bne_self_eq_false,Bool.false_eq_true,if_false];refine wpAny_pure ?_;rw [hout];exact h
theorem qjq{l:Addr}{vs:List Value}{Q:Value→Shared→Prop}(hl:s.heap.IsList l vs.toArray)(h2:vs.length<2)(h:Q (.ref (s.heap.objs.size+1)) {s with heap:=sortedAll s.heap vs vs.toArray}):wpAny (model prog w) A (call (.builtin "sorted") [.ref l]) Q E s:=by
 refine Calls.call_function_entry kind_sorted plain_sorted entry_sorted (args_sorted1 _) ?_;unfold Builtin.«sorted»;refine wpAny_bind (m:=checkCount "sorted" 1 1 _) (wpAny_pure ?_);refine wpAny_bind (collect_list hl ?_ (by rw [sizeLine_eq];lia));refine wpAny_bind (wpAny_newList ?_ (by rw [sizeLine_eq];lia));have hsz:((s.heap.push (seqObj "list" #[] 0)).update s.heap.objs.size (Obj.mapSeq (· ++ vs.toArray))).objs.size=s.heap.objs.size+1:=by rw [Heap.size_update,size_push']
 have hoL:(((s.heap.push (seqObj "list" #[] 0)).update s.heap.objs.size (Obj.mapSeq (· ++ vs.toArray))).push (seqObj "list" vs.toArray 0)).get? (s.heap.objs.size+1)=some (seqObj "list" vs.toArray 0):=by rw [←hsz];exact Heap.get?_push_size _ rfl
 show wpAny _ _ _ _ _ {s with heap:=((s.heap.push (seqObj "list" #[] 0)).update s.heap.objs.size (Obj.mapSeq (· ++ vs.toArray))).push (seqObj "list" vs.toArray 0)};rw [hsz];refine wpAny_bind (wpAny_holding (wpAny_call_entry slot_list_sort ⟨_,hoL,rfl⟩ entry_list_sort ?body (args_list_sort _)))
 case body=>
  exact qfm hoL h2 ⟨_,rfl,wpAny_pure ⟨_,rfl,h⟩⟩
end
section
variable{X:Cx}{pins:List (Addr×Obj)}{σ:St}{H:Hp}{s:Shared}
theorem Inv.big(I:Inv X pins σ H s):sysModules<s.heap.objs.size:=by
 obtain⟨o,_,_,e,_⟩:=I.mod.glob;exact Nat.lt_of_le_of_lt (by decide) (Heap.lt_size (I.bk _ _ e))
theorem qmo{pos:Pos}:PE X (.Dict [] [] pos) (fun _ H Q=>∀p,H p=none→Q (.ref p) (upd H p (.dK []))):=fun pins s σ H Q I h=>
 wpAny_Dict_empty ⟨.ref s.heap.objs.size,_,I.laid (a:=s.heap.objs.size) (o:=.dK []) (t':=s.toks) (fun _ _ q=>Heap.get?_push_of_some _ q) (Nat.le_refl _) ⟨Nat.zero_le _,beq_eq_false_iff_ne.mpr (Ne.symm (Nat.ne_of_lt I.big)),[],.nil,Heap.DictOf.new s.heap⟩,rfl,h _ (I.hok.fresh (Nat.le_refl _))⟩
theorem qox{A:Around}{bs:List Bool}{us:List Value}(r:Vals (bs.map V.bl) us):us=bs.map Value.bool:=by
 induction bs generalizing us with
 |nil=>cases r;rfl
 |cons b bs ih=>cases r with
  |cons h t=>rw [ih t,show _=Value.bool b from h];rfl
end
section
variable{X:Cx}
noncomputable def qiO(r r' r'':R2)(ta tb tc td:TE):TE:=fun σ H Q=>ta σ H fun x H1=>tb σ H1 fun y H2=>r x y H2 fun z H3=>∃k,z=.bl k ∧
 (if k=true then tc σ H3 fun w' H4=>r' y w' H4 fun z H5=>∃k,z=.bl k∧(if k=true then td σ H5 fun w'' H6=>r'' w' w'' H6 Q else Q (.bl false) H5)else Q (.bl false) H3)
theorem qly{a b c d:Expr}{ta tb tc td:TE}{pos:Pos}{op op' op'':CmpOp}{r r' r'':R2}(ho:OpR X (compareOp op) r)(ho':OpR X (compareOp op') r')(ho'':OpR X (compareOp op'') r'')(ha:PE X a ta)(hb:PE X b tb)(hc:PE X c tc)(hd:PE X d td)
  (hm:lastMarks [op,op',op''] [b,c,d]=false:=by with_unfolding_all rfl):PE X (.Compare a [op,op',op''] [b,c,d] pos) (qiO r r' r'' ta tb tc td):=by
 intro pins s σ H Q I h;refine Compare_chain (thn (ha pins s σ H _ I h) fun v s1 ⟨x,H1,I1,r1,q1⟩=>chain_link (thn (hb pins s1 σ H1 _ I1 q1) fun u s2 ⟨y,H2,I2,r2,q2⟩=>
  thn (ho pins s2 σ H2 x y v u _ I2 r1 r2 q2) fun d s3 ⟨z,H3,I3,r3,k,e,q3⟩=>?_)) hm
 subst e;cases r3;refine wpAny_truthy_bool ?_;cases k with
 |false=>exact ite_ff ⟨.bl false,H3,I3,rfl,q3⟩
 |true=>
  refine ite_tt (chain_link (thn (hc pins s3 σ H3 _ I3 q3) fun w' s4 ⟨z',H4,I4,r4,q4⟩=>thn (ho' pins s4 σ H4 y z' u w' _ I4 r2 r4 q4) fun d' s5 ⟨z2,H5,I5,r5,k2,e2,q5⟩=>?_));subst e2;cases r5;refine wpAny_truthy_bool ?_;cases k2 with
  |false=>exact ite_ff ⟨.bl false,H5,I5,rfl,q5⟩
  |true=>exact ite_tt (chain_last (thn (hd pins s5 σ H5 _ I5 q5) fun w'' s6 ⟨z3,H6,I6,r6,q6⟩=>ho'' pins s6 σ H6 z' z3 w' w'' Q I6 r4 r6 q6))
noncomputable def qsF(K:PySem.W.Frag):R2:=fun x y H Q=>∃a b xs ys,x=.ref a∧y=.ref b∧SqT K H a xs∧SqT K H b ys∧xs.length+ys.length≤sizeLine ∧
 (xs=[]→Q (.ref b) H)∧(xs≠[]→ys=[]→Q (.ref a) H)∧(xs≠[]→ys≠[]→∀p,H p=none→Q (.ref p) (upd H p (.tup (xs++ys))))
theorem quv:OpR X (binaryOp .Add) (qsF X.K):=by
 intro pins s σ H x y v u Q I rx ry h;obtain⟨a,b,xs,ys,rfl,rfl,ha,hb,hz,q0,q1,q2⟩:=h;by_cases hx:xs=[]
 ·subst hx;cases rx;cases ry;obtain⟨its,r1,p1,_⟩:=I.tuple ha;obtain⟨its2,r2,p2,_⟩:=I.tuple hb;cases r1;obtain⟨⟨cls,dd,data,sl⟩,ho,hc,n,hd⟩:=id p1;obtain⟨⟨cls2,dd2,data2,sl2⟩,ho2,hc2,n2,hd2⟩:=id p2;simp only at hc hd hc2 hd2;subst hc hd hc2 hd2;exact concat_meets ⟨_,ho,rfl⟩ ⟨_,ho2,rfl⟩ noFill_tuple_add seq_tuple_add PySem.F.slot_tuple_add PySem.F.entry_tuple_add (PySem.F.args_tuple_add_2 _ _)
   (tuple_addW0 a b _ its2.toArray n n2 dd dd2 sl sl2 (by simp)) ⟨ho,ho2,⟨.ref b,H,I,rfl,q0 rfl⟩⟩
 ·exact qoE pins s σ H (.ref a) (.ref b) v u Q I rx ry ⟨a,b,xs,ys,rfl,rfl,ha,hb,hx,hz,q1 hx,q2 hx⟩
theorem qfs{vs:List Value}{ns:List Int}(h:IntsAre vs ns):Vals (ns.map V.int) vs:=by
 induction h with
 |nil=>exact .nil
 |cons n t _ ih=>exact .cons ⟨t,rfl⟩ ih
noncomputable def qqL(K:PySem.W.Frag):List V→Hp→VK→Prop:=fun vs H Q=>∃(l:Addr) (ns:List Int),vs=[.ref l]∧SqL K H l (ns.map V.int)∧ns.length<64∧∀(D:Addr) (ms:List Int),H D=none→ms.Perm ns→ms.Pairwise (·≤·)→Q (.ref D) (upd H D (.lst (ms.map V.int)))
theorem qsL:qz X (.builtin "sorted") (qqL X.K):=by
 intro pins s σ H xs us Q I r h;obtain⟨l,ns,rfl,hl,h64,q⟩:=h;obtain⟨u,rfl,ru⟩:=r.one;cases ru;obtain⟨its,rv,pl,hz⟩:=I.list hl;obtain⟨m,F⟩:=I.fr;refine PySem.W.kso_sorted F (qnC (g:=X.base) (h:=s.heap) (L:=X.env.locals)) pl.isList (intsAre_of rv) h64 fun D vs' ns' c h' F' N' hlt hi he hp ho _=>?_
 have keep:∀b o,b≠X.env.locals→s.heap.get? b=some o→h'.get? b=some o:=fun b o hb e=>by
  cases qb:X.base.get? b with
  |some ob=>have:=I.bk b ob qb;rw [e]at this;cases this;exact F'.keep b _ qb
  |none=>exact(N' (b,o) (List.mem_cons_of_mem _ (qey hb qb e))).1
 have hDn:=N' (D,_) List.mem_cons_self;have hD0:s.heap.get? D=none:=by
  cases qd:s.heap.get? D with
  |none=>rfl
  |some o=>exact absurd (hlt (D,o) (qey hDn.2.1 hDn.2.2 qd)) (Nat.lt_irrefl _)
 refine⟨.ref D,_,I.newList (s':={s with heap:=h'}) (c:=c) rfl rfl keep (fun m' hm'=>?_) hD0 hDn.2.1 hDn.1 (qfs hi) (by rw [List.length_map,he,sizeLine_eq];lia),rfl,q D ns' (I.hok.free_of hD0) hp ho⟩;rw [qpI hm' F.ns];exact F'.ns
end
noncomputable def Ite(K:PySem.W.Frag)(l:Addr):It:=
 ⟨fun i H=>∃xs x,SqL K H l xs∧xs[i]? = some x,
  fun i H v H'=>∃p x,H p=none∧v=.ref p∧H'=upd H p (.tup [.int i,x])∧∀xs,SqL K H l xs→xs[i]? = some x,
  fun i H=>∃xs,SqL K H l xs∧xs.length≤i⟩
theorem qkM{P:Program}{w:World}{K:PySem.W.Frag}{es:List Expr}{ek:Nat}{epos:Pos}{e it l:Addr}(n1:e≠it)(n2:l≠e)(n3:l≠it) :
  Turn P w K (.Tuple es ek epos) (Ite K l) [e,it] e (fun i h=>(∃old,IsEnum h e it ((i:Nat):Int) old)∧h.IsListIter it l i) where
 mem:=by simp
 obj:=fun i h st b hb=>by
  obtain⟨⟨old,hz⟩,o1,e1,_,d1⟩:=st;have hb':b=e∨b=it:=by simpa using hb
  rcases hb' with q|q
  ·subst q;exact⟨_,hz,fun v q=>by cases q⟩
  ·subst q;exact⟨o1,e1,fun v q=>by rw [d1]at q;cases q⟩
 keep:=fun i h h' st k=>by
  obtain⟨⟨old,hz⟩,h1⟩:=st;exact⟨⟨old,k e (by simp) _ hz⟩,h1.at fun o q=>k it (by simp) o q⟩
 item:=by
  intro X hP hw hK hc i pins s σ H E I hf st hg;subst hP hw hK;obtain⟨⟨old,hz⟩,h1⟩:=st;obtain⟨xs,x,q1,hx⟩:=hg;obtain⟨its,r1,p1,z1⟩:=I.list q1;obtain⟨u1,hu1,ru1⟩:=r1.get hx;refine wpAny_pyNext_enum_item hz h1 p1.isList (x:=u1) (by simpa using hu1) n1 fun h' a1 a2 a3 a4 hk=>?_
  have hkc:∀b o,b∉[e,it]→s.heap.get? b=some o→h'.get? b=some o:=fun b o hb q=>hk b o (fun z=>hb (by simp [z])) (fun z=>hb (by simp [z])) q
  have I1:Inv X pins σ (upd H s.heap.objs.size (.tup [.int i,x])) {s with heap:=h',toks:=s.toks+1}:=I.turnNew (tk:=s.toks+1) (its:=[.int i s.toks,u1]) hf hkc (Nat.le_refl _) ⟨_,a3,rfl,_,rfl⟩ (.cons ⟨_,rfl⟩ (.cons ru1 .nil)) (by show 2≤sizeLine;decide);have hpn:H s.heap.objs.size=none:=I.hok.fresh (Nat.le_refl _);have hfp:∀b∈[e,it],b≠s.heap.objs.size:=fun b hb q=>by
   have hb':b=e∨b=it:=by simpa using hb
   obtain⟨o1,e1,_,d1⟩:=h1;have:b<s.heap.objs.size:=by
    rcases hb' with q|q
    ·subst q;exact Heap.lt_size hz
    ·subst q;exact Heap.lt_size e1
   rw [q]at this;exact Nat.lt_irrefl _ this
  have hnone:∀b∈[e,it],(upd H s.heap.objs.size (.tup [.int i,x])) b=none:=fun b hb=>by rw [qt (hfp b hb)];exact(hf b hb).1
  refine⟨_,rfl,?_⟩;refine wpAny_letOwnedTupleGo_enum (s:={s with heap:=h',toks:=s.toks+1}) a1 fun h2' hz' hs'=>?_
  obtain⟨f0,f1,f2,f3,f4,f5⟩:=hf e (by simp);refine⟨.ref s.heap.objs.size,_,I1.turned (t':=s.toks+1) (it:=e) (fun b o hb q=>(hs'.2 b hb).trans q) (hnone e (by simp)) f1 f3 f4 f5,rfl,⟨_,x,hpn,rfl,rfl,fun zs hq=>by rw [I.list_inj hq q1];exact hx⟩,⟨⟨u1,?_⟩,a2.at fun o q=>(hs'.2 it (Ne.symm n1)).trans q⟩,hnone⟩
  ·have:((i+1:Nat):Int)=(i:Int)+1:=by push_cast;rfl
   rw [this];exact hz'
 done:=by
  intro X hP hw hK hc i pins s σ H E I hf st hg;subst hP hw hK;obtain⟨⟨old,hz⟩,h1⟩:=st;obtain⟨xs,q1,hx⟩:=hg;obtain⟨its,r1,p1,z1⟩:=I.list q1;have hl:=r1.length;exact wpAny_pyNext_enum_end (I.ok.hd hc) hz h1 p1.isList (by simp;lia) fun h' eb=>⟨rfl,I.turnAll (tk:=s.toks) hf fun b o hb q=>eb b o (fun z=>hb (by simp [z])) q⟩
 self:=fun _ _ _ _ _ st h=>by
  obtain⟨⟨old,hz⟩,_⟩:=st;exact wpAny_pyIter_enum hz h
noncomputable def qtD(K:PySem.W.Frag)(ta:TA):TI:=fun σ H R=>ta σ H fun vs H1=>∃(l:Addr),vs=[.ref l]∧(∃xs,SqL K H1 l xs)∧R (Ite K l) H1
theorem qpb{X:Cx}{es:List Expr}{ek:Nat}{epos p pos:Pos}{a:Expr}{ta:TA}(hg:Gl X "enumerate")(hm:X.mg "enumerate" = none)(hv:bootBuiltins "enumerate" = some (.type "enumerate"))(ha:PA X [a] ta)
  (hs:starEach [a] X.env=[(false,eval a X.env)]:=by rfl):PI X (.Tuple es ek epos) (.Call (.Name "enumerate" p) [a] [] pos) (qtD X.K ta):=by
 intro pins s σ H R I h;refine Call_ (qcg I hg hm hv (PyProof.Rows.callWith_type1 (thn (ha pos pins s σ H _ I h) fun us s1 ⟨vs,H1,I1,r1,q1⟩=>?_) (by rw [hs];rfl) (by rfl)));obtain⟨l,e,⟨xs,q2⟩,q⟩:=q1;subst e;cases r1 with
 |cons r rr=>
  cases rr;cases r;obtain⟨its1,v1,p1,_⟩:=I1.list q2;have lt1:l<s1.heap.objs.size:=by obtain⟨_,e,_⟩:=p1.isList;exact Heap.lt_size e
  refine call_enumerate_list p1.isList fun h' hE hI hsz k=>?_
  have I2:Inv X pins σ H1 {s1 with heap:=h'}:=I1.kept (t':=s1.toks) k;refine wpAny_pyIter_enum hE ?_;refine⟨_,_,_,_,H1,rfl,I2,qkM (P:=X.prog) (w:=X.w) (K:=X.K) (e:=s1.heap.objs.size+1) (it:=s1.heap.objs.size) (l:=l) (Nat.succ_ne_self _) (Nat.ne_of_lt (Nat.lt_succ_of_lt lt1)) (Nat.ne_of_lt lt1),⟨⟨_,hE⟩,hI⟩,fun b hb=>?_,q⟩;have hb':b=s1.heap.objs.size+1∨b=s1.heap.objs.size:=by simpa using hb
  have:s1.heap.objs.size≤b:=by
   rcases hb' with q|q
   ·rw [q];exact Nat.le_succ _
   ·rw [q];exact Nat.le_refl _
  exact I1.fpOk this (I1.hok.fresh this)
end L2
namespace L2
open PySem PySem.Spec PyProof.Rows PySem.SeqAt
mutual
inductive qaU(K:PySem.W.Frag)(H:Hp):V→PyData→Prop
 |non:qaU K H .non .none
 |bl (b:Bool):qaU K H (.bl b) (.bool b)
 |int (i:Int):qaU K H (.int i) (.int i)
 |str (x:Str):qaU K H (.str x) (.str x)
 |lst {a:Addr}{xs:List V}{ds:List PyData}:SqL K H a xs→qcd K H xs ds→qaU K H (.ref a) (.list ds)
 |tup {a:Addr}{xs:List V}{ds:List PyData}:SqT K H a xs→qcd K H xs ds→qaU K H (.ref a) (.tuple ds)
inductive qcd(K:PySem.W.Frag)(H:Hp):List V→List PyData→Prop
 |nil:qcd K H [] []
 |cons {x:V}{xs:List V}{d:PyData}{ds:List PyData}:qaU K H x d→qcd K H xs ds→qcd K H (x::xs) (d::ds)
end
section
variable{X:Cx}{pins:List (Addr×Obj)}{σ:St}{H:Hp}{s:Shared}
theorem Inv.reads(I:Inv X pins σ H s){x:V}{d:PyData}(h:qaU X.K H x d):∀{u:Value},RelV x u→∃as,Reads s.heap u d as:=
 h.rec (motive_1:=fun x d _=>∀{u:Value},RelV x u→∃as,Reads s.heap u d as) (motive_2:=fun xs ds _=>∀{us:List Value},Vals xs us→∃as,ReadsAll s.heap us ds as) (fun r=>by cases r;exact⟨_,.none⟩) (fun b _ r=>by cases r;exact⟨_,.bool b⟩) (fun i _ r=>by obtain⟨t,rfl⟩:=r;exact⟨_,.int i t⟩) (fun x _ r=>by obtain⟨t,rfl⟩:=r;exact⟨_,.str x t⟩)
  (fun h _ g _ r=>by
   cases r;obtain⟨its,rv,pl,_⟩:=I.list h;obtain⟨as,ra⟩:=g rv;obtain⟨o,ho,hc,n,hd⟩:=pl.isList;exact⟨_,Reads.list ho hc hd (by simpa using ra)⟩)
  (fun h _ g _ r=>by
   cases r;obtain⟨its,rv,pl,_⟩:=I.tuple h;obtain⟨as,ra⟩:=g rv;obtain⟨o,ho,hc,n,hd⟩:=pl;exact⟨_,Reads.tuple ho hc hd (by simpa using ra)⟩)
  (fun r=>by cases r;exact⟨_,.nil⟩) (fun _ _ a b _ r=>by
   cases r with
   |cons r1 r2=>
    obtain⟨as,ra⟩:=a r1;obtain⟨bs,rb⟩:=b r2;exact⟨_,.cons ra rb⟩)
end
section
variable{X:Cx}
end
end L2
namespace L2
open PySem PySem.Spec PyProof.Rows
section
variable{lt:Nat→Nat→Bool}
noncomputable def Asc(lt:Nat→Nat→Bool)(p:Array Nat)(m:Nat):Prop:=∀i j,i<j→j<m→lt (p.getD j 0) (p.getD i 0)=false
end
section
variable{lt:Nat→Nat→Bool}
structure Part(lt:Nat→Nat→Bool)(p:Array Nat)(r:Nat×Array Nat):Prop where
 perm:r.2.Perm p
 size:r.2.size=p.size
 lo:1≤r.1
 hi:r.1≤p.size
 asc:Asc lt r.2 r.1
end
end L2
namespace HT
open PySem PySem.Spec PyProof.Rows L2
section
variable{prog:Program}{w:World}{A:Around}{E:Value→Shared→Prop}{s:Shared}
theorem qin{t sl:Addr}{items:Array Value}{vl vu:Value}{lo hi:Option Int}{Q:Value→Shared→Prop}(ht:IsTup s.heap t items)(hs:s.heap.IsSliceOf sl vl vu .none)(pl:IsPart vl lo)(pu:IsPart vu hi)
  (h0:sIx items.size 0 lo=0) (h1:sIx items.size items.size hi=items.size) (h:Q (.ref t) s):wpAny (model prog w) A (getItem (.ref t) (.ref sl)) Q E s:=by
 have sk:s.TypeIs (.ref sl) "slice":=by obtain⟨o,a,b,_⟩:=id hs;exact⟨o,a,b⟩
 unfold getItem
 try with_reducible refine wpAny_holding ?_
 first|refine wpAny_bind (wpAny_pure ?_)|skip
 have ty:=ht.typeIs;apply wpAny_bind;apply wpAny_sequenceKey ty (by decide);apply wpAny_bind;apply wpAny_callSpecial?_slot (name:=Str.ofString "__getitem__") ty slot_tuple_getitem;refine wpAny_call_entry slot_tuple_getitem ty entry_tuple_getitem ?_ (args_tuple_getitem _ _);show wpAny _ _ (Builtin.Tuple.tupleItemsOf (.ref t)>>=_) _ _ s;apply wpAny_bind;apply tupleItemsOf_ ht;apply wpAny_bind;apply wpAny_typeOf sk;rw [if_pos (by decide)];apply wpAny_bind;apply qcs hs pl pu;have yes:(((sIx items.size 0 lo:Nat):Int)==0&&(1:Int)==1&&(sIx items.size items.size hi-sIx items.size 0 lo)==items.size)=true:=by
  rw [h0,h1];simp
 show wpAny _ _ (if (((sIx items.size 0 lo:Nat):Int)==0&&(1:Int)==1&&(sIx items.size items.size hi-sIx items.size 0 lo)==items.size)=true then _ else _) _ _ s;rw [if_pos yes];apply wpAny_bind;unfold Builtin.Tuple.tupleIsExact;refine wpAny_bind (wpAny_typeOf ty (wpAny_pure ?_));rw [if_pos (by rfl)];exact wpAny_bind (wpAny_rule (wpAny_pure ⟨_,rfl,wpAny_pure h⟩))
end
end HT
namespace L2
open PySem PySem.Spec PyProof.Rows
noncomputable def qup(K:PySem.W.Frag):V→Option Int→Option Int→Hp→VK→Prop:=fun x lo hi H Q=>∃a xs,x=.ref a∧SqT K H a xs∧HT.sIx xs.length 0 lo=0∧HT.sIx xs.length xs.length hi=xs.length∧Q x H
theorem qny{X:Cx}:SlR X (qup X.K):=by
 intro pins s σ H x v vl vu lo hi sl Q I rx hs pl pu ⟨a,xs,e,hx,h0,h1,q⟩;subst e;have rx':=rx;cases rx;obtain⟨its,r,ht,hz⟩:=I.tuple hx;have hl:its.toArray.size=xs.length:=by rw [List.size_toArray];exact r.length.symm
 exact⟨"tuple",_,slot_tuple_getitem.lookup,ht.typeIs,HT.qin ht hs pl pu (by rw [hl];exact h0) (by rw [hl];exact h1) ⟨.ref a,H,I,rx',q⟩⟩
section
variable{X:Cx}
end
noncomputable def ItS(lo:Int)(st:Int)(n:Nat):It:=⟨fun i _=>i<n,fun i H x H'=>H'=H∧x=.int (lo+i * st),fun i _=>n≤i⟩
theorem qim{P:Program}{w:World}{K:PySem.W.Frag}{tg:Expr}(it:Addr)(lo st:Int)(n:Nat):Turn P w K tg (ItS lo st n) [it] it (fun i h=>IsRangeIter h it (lo+(i:Nat) * st) ((n:Int)-(i:Nat)) st) where
 mem:=by simp
 obj:=fun i h st b hb=>by
  have e:b=it:=by simpa using hb
  subst e;exact⟨_,st,fun v z=>by
   have z':Data.fields _=Data.cell v:=z;cases z'⟩
 keep:=fun i h h' st k=>k it (by simp) _ st
 item:=by
  intro X hP hw hK hc i pins s σ H E I hf st' hg;subst hP hw hK;obtain⟨f0,f1,f2,f3,f4,f5⟩:=hf it (by simp);have W:=Walks.range (prog:=X.prog) (w:=X.w) (I.ok.hd hc) it lo st n;refine W.item i s _ _ hg st' fun v h' tk hv st' kk=>?_
  obtain⟨t,rfl⟩:=hv;have I1:Inv X pins σ H {s with heap:=h',toks:=tk}:=I.turned (fun b o hb e=>kk b o (by simpa using hb) e) f0 f1 f3 f4 f5;exact⟨_,rfl,qgU (s:={s with heap:=h',toks:=tk}) (n:="range_iterator") st' rfl rfl (by decide) ⟨.int (lo+i * st),H,I1,⟨t,rfl⟩,⟨rfl,rfl⟩,st',fun b hb=>(hf b hb).1⟩⟩
 done:=by
  intro X hP hw hK hc i pins s σ H E I hf st' hg;subst hP hw hK;obtain⟨f0,f1,f2,f3,f4,f5⟩:=hf it (by simp);exact wpAny_pyNext_range_end (I.ok.hd hc) st' (by have:n≤i:=hg;lia) fun h' eb=>⟨rfl,I.turned (t':=s.toks) (fun b o hb e=>eb b o hb e) f0 f1 f3 f4 f5⟩
 self:=fun _ _ _ _ _ st h=>wpAny_pyIter_rangeiter st h
noncomputable def qaS(lo hi st:Int):Nat:=if lo<hi then ((hi-lo-1)/st+1).toNat else 0
theorem qfT{lo hi st:Int}(h:0<st):Builtin.Range.rangeSize lo hi st=(qaS lo hi st:Nat):=by
 unfold Builtin.Range.rangeSize qaS;rw [if_pos h];split
 ·have:0≤(hi-lo-1)/st:=Int.ediv_nonneg (by lia) (by lia);lia
 ·rfl
theorem qiH{lo hi st:Int}(h:0<st)(h1:-1000000≤lo)(h2:hi≤1000000):qaS lo hi st≤2000001:=by
 unfold qaS;split
 ·have:(hi-lo-1)/st≤hi-lo-1:=Int.ediv_le_self _ (by lia);lia
 ·lia
theorem qhg{a b c:Int}(hc:0<c)(hc':c≤1000000)(ha:-1000000≤a)(ha':a≤1000000)(hb:-1000000≤b)(hb':b≤1000000):Builtin.Range.small a b c=true:=by
 have h1:=qfT (lo:=a) (hi:=b) hc;have h2:=qiH (lo:=a) (hi:=b) hc ha hb';unfold Builtin.Range.small;rw [h1];have hcc:(qaS a b c:Int) * c≤4000000 * 1000000:=by
  have e1:(qaS a b c:Int)≤4000000:=by lia
  exact Int.mul_le_mul e1 hc' (by lia) (by lia)
 have hc0:0≤(qaS a b c:Int) * c:=Int.mul_nonneg (by lia) (by lia);simp only [Builtin.Range.rangeFitsLong,Bool.and_eq_true,Bool.or_eq_true,decide_eq_true_eq,beq_iff_eq,hc,if_true];generalize hm:(qaS a b c:Int) * c=m at *;lia
section
variable{X:Cx}{tg:Expr}
theorem qme{pins:List (Addr×Obj)}{σ:St}{H:Hp}{s:Shared}{R:It→Hp→Prop}{E:Value→Shared→Prop}{lo hi st:Int}{t u v:Tok}{tk:Nat}(I:Inv X pins σ H s)(hst:0<st)(hsm:Builtin.Range.small lo hi st=true)
  (q:R (ItS lo st (qaS lo hi st)) H):wpAny (model X.prog X.w) X.A (pyIter (.ref s.heap.objs.size)) (PIE X pins σ tg R) E {s with heap:=s.heap.push {cls:=.type "range",data:=.fields #[.int lo t,.int hi u,.int st v]},toks:=tk}:=by
 refine wpAny_pyIter_range (IsRange.new ..) hsm ?_;have I1:Inv X pins σ H {s with heap:=s.heap.push {cls:=.type "range",data:=.fields #[.int lo t,.int hi u,.int st v]},toks:=tk}:=I.kept fun b o e=>Heap.get?_push_of_some _ e
 refine⟨(s.heap.push {cls:=.type "range",data:=.fields #[.int lo t,.int hi u,.int st v]}).objs.size,[(s.heap.push {cls:=.type "range",data:=.fields #[.int lo t,.int hi u,.int st v]}).objs.size],_,_,H,rfl,
  I1.kept (t':=tk) fun b o e=>Heap.get?_push_of_some _ e,qim _ lo st (qaS lo hi st),?_,fun b hb=>?_,q⟩
 ·have e1:lo+((0:Nat):Int) * st=lo:=by simp
  have e2:((qaS lo hi st:Nat):Int)-((0:Nat):Int)=Builtin.Range.rangeSize lo hi st:=by rw [qfT hst];lia
  show IsRangeIter _ _ (lo+((0:Nat):Int) * st) (((qaS lo hi st:Nat):Int)-((0:Nat):Int)) st;rw [e1,e2];exact Heap.get?_push_size _ rfl
 ·have e:b=(s.heap.push {cls:=.type "range",data:=.fields #[.int lo t,.int hi u,.int st v]}).objs.size:=by simpa using hb
  subst e;exact I1.fpOk (Nat.le_refl _) (I1.hok.fresh (Nat.le_refl _))
noncomputable def qtF(ta:TA):TI:=fun σ H R=>ta σ H fun vs H1=>∃i j k:Int,vs=[.int i,.int j,.int k]∧(-1000000≤i∧i≤1000000∧-1000000≤j∧j≤1000000∧0<k∧k≤1000000)∧R (ItS i k (qaS i j k)) H1
theorem qlp{a b c:Expr}{ta:TA}{p pos:Pos}(hg:Gl X "range")(hm:X.mg "range" = none)(ha:PA X [a,b,c] ta)(hs:starEach [a,b,c] X.env=(false,eval a X.env)::starEach [b,c] X.env)(hs2:starEach [b,c] X.env=[(false,eval b X.env),(false,eval c X.env)]) :
  PI X tg (.Call (.Name "range" p) [a,b,c] [] pos) (qtF ta):=by
 intro pins s σ H R I h;refine Call_ (qcg I hg hm boot_range (PyProof.Rows.callWith_type1 (thn (ha pos pins s σ H _ I h) fun us s1 ⟨vs,H1,I1,r1,q1⟩=>?_) hs (by rw [hs2];rfl)));obtain⟨i,j,k,e,⟨q1,q2,q3,q4,q5,q6⟩,q⟩:=q1;subst e;cases r1 with
 |cons r rr=>
  cases rr with
  |cons r' rr=>
   cases rr with
   |cons r'' rr=>
    cases rr;obtain⟨t,rfl⟩:=r;obtain⟨t',rfl⟩:=r';obtain⟨t'',rfl⟩:=r'';exact call_range_3 (by lia) (qme I1 q5 (qhg q5 q6 q1 q2 q3 q4) q) (.inl (PyProof.noPylong_small (by lia)))
noncomputable def qsD(i j k:Nat)(ta:TA):TS:=fun D σ H=>ta σ H fun vs H1=>∃v w z,vs=[v,w,z]∧D.nx (((σ.set i (some v)).set j (some w)).set k (some z)) H1
theorem qoV{pos:Pos}{i j k:Nat}{x y z:Str}{a b c:Expr}{ta:TA}{px py pz pt:Pos}{kt k2 pt2}(hc:X.calm=true)(hN:X.N.Nodup)(hi:X.N[i]? = some x)(hj:X.N[j]? = some y)(hk:X.N[k]? = some z)(hij:i≠j)(hik:i≠k)(hjk:j≠k)
  (hx:X.env.scope.names.lookup x=some .local) (hy:X.env.scope.names.lookup y=some .local) (hz:X.env.scope.names.lookup z=some .local) (ha:PA X [a,b,c] ta)
  (hw:swappedStores [.Tuple [.Name x px,.Name y py,.Name z pz] kt pt] (.Tuple [a,b,c] k2 pt2) X.env=pure (some [x,y,z]))
  (hs:swapsWithSole [.Tuple [.Name x px,.Name y py,.Name z pz] kt pt] (.Tuple [a,b,c] k2 pt2) pos.line X.env=pure false:=by rfl) :
  PS X (.Assign [.Tuple [.Name x px,.Name y py,.Name z pz] kt pt] (.Tuple [a,b,c] k2 pt2) pos) (qsD i j k ta):=by
 intro pins s σ H D I h;rw [exec_Assign_arm];refine wpAny_bind (wpAny_standAt ?_);rw [hs];refine wpAny_bind (wpAny_pure ?_);rw [if_neg (by decide)];refine wpAny_bind (Tuple_ (thn (ha _ pins s σ H _ I h) fun us s1 ⟨vs,H1,I1,r1,q1⟩=>?_));obtain⟨v,w,y',e1,q1⟩:=q1;subst e1;obtain⟨u1,u2,u3,rfl,rv,rw',rz⟩:∃u1 u2 u3,us=[u1,u2,u3]∧RelV v u1∧RelV w u2∧RelV y' u3:=by
  cases r1 with
  |cons p q=>
   cases q with
   |cons p' q'=>
    cases q' with
    |cons p'' q''=>
     cases q'';exact⟨_,_,_,rfl,p,p',p''⟩
 refine wpAny_newObj_type ?_ (by show 3≤sizeLine;decide);have I2:Inv X pins σ H1 {s1 with heap:=s1.heap.push {cls:=.type "tuple",data:=.seq [u1,u2,u3].toArray}}:=I1.kept (t':=s1.toks) fun b o e=>Heap.get?_push_of_some _ e
 rw [hw];refine wpAny_bind (wpAny_pure ?_);show wpAny (model X.prog X.w) X.A (do rule "assign.swapped-stores";let items ←unpackItems (.ref s1.heap.objs.size) 3 none;assignInOrder [fun v=>bindName X.env z v,fun v=>bindName X.env y v,fun v=>bindName X.env x v] items.reverse;pure Flow.next) _ _ _;refine wpAny_bind (wpAny_rule (wpAny_bind (unpackItems_tuple (items:=#[u1,u2,u3]) (I.ok.hd hc) (IsTup.new s1.heap _) fun h' hx'=>?_)));have I3:=I2.kept (h':=h') (t':=s1.toks) fun b o e=>hx' b o (Nat.ne_of_lt (Heap.lt_size e)) e
 show wpAny _ _ (assignInOrder [fun v=>bindName X.env z v,fun v=>bindName X.env y v,fun v=>bindName X.env x v] [u3,u2,u1]>>=fun _=>pure Flow.next) _ _ _;refine wpAny_bind (assignInOrder_cons (wpAny_bindName (qch I3 hN hk (.inl hz) rz (fun s2 I4=>?_) (.inr hz))));refine assignInOrder_cons (wpAny_bindName (qch I4 hN hj (.inl hy) rw' (fun s3 I5=>?_) (.inr hy)));refine assignInOrder_cons (wpAny_bindName (qch I5 hN hi (.inl hx) rv (fun s4 I6=>assignInOrder_nil (wpAny_pure ?_)) (.inr hx)));rw [List.set_comm _ _ (Ne.symm hjk),List.set_comm _ _ (Ne.symm hik),List.set_comm _ _ (Ne.symm hij)]at I6;exact⟨_,H1,I6,q1⟩
noncomputable def qeO(t0:Str)(i:Int)(t1:Str):Str:=((Str.empty++t0)++(toString i:String))++t1
noncomputable def qef(t0:Str)(i:Int)(t1:Str)(j:Int)(t2:Str):Str:=(qeO t0 i t1++(toString j:String))++t2
noncomputable def que(t0:Str)(ta:TE)(t1:Str)(tb:TE)(t2:Str):TE:=fun σ H Q=>ta σ H fun x H1=>∃i:Int,x=.int i∧(i.natAbs.log2<1920∧(qeO t0 i t1).length≤sizeLine) ∧
 tb σ H1 fun y H2=>∃j:Int,y=.int j∧(j.natAbs.log2<1920∧(qef t0 i t1 j t2).length≤sizeLine)∧Q (.str (qef t0 i t1 j t2)) H2
theorem qsi{ea eb:Expr}{ta tb:TE}{t0 t1 t2:Str}{k0 k1 k2}{p0 p1 p2 p3 p4 pos:Pos}(h0:(Str.empty++t0).length≤sizeLine)(ha:PE X ea ta)(hb:PE X eb tb) :
  PE X (.JoinedStr [.Constant (.str t0) k0 p0,.FormattedValue ea (-1) none p1,.Constant (.str t1) k1 p2,.FormattedValue eb (-1) none p3,.Constant (.str t2) k2 p4] pos) (que t0 ta t1 tb t2):=by
 intro pins s σ H Q I h;refine PyProof.Rows.JoinedStr_many ?_;refine PyProof.Rows.joinParts_cons (thn (qfj pins s σ H (fun x H1=>x=.str t0∧H1=H) I ⟨rfl,rfl⟩) fun v s1 ⟨x,H1,I1,r1,e1,e2⟩=>?_);subst e1 e2;obtain⟨tk,rfl⟩:=r1;refine⟨h0,?_⟩;refine PyProof.Rows.joinParts_cons (PyProof.Rows.FormattedValue_plain (thn (ha pins s1 σ H1 _ I1 h) fun v s2 ⟨x,H2,I2,r2,q⟩=>?_));obtain⟨i,rfl,⟨l1,l2⟩,q⟩:=q;obtain⟨tk,rfl⟩:=r2;have z1:((Str.empty++t0)++(toString i:String)).length≤sizeLine:=by
  unfold qeO at l2;rw [strLen_append]at l2;lia
 have I3:Inv X pins σ H2 {s2 with toks:=s2.toks+1+1}:=I2.kept (t':=s2.toks+1+1) fun b o e=>e
 refine PyProof.Rows.formatField_int_small l1 ⟨z1,?_⟩;refine PyProof.Rows.joinParts_cons (thn (qfj pins _ σ H2 (fun x H1=>x=.str t1∧H1=H2) I3 ⟨rfl,rfl⟩) fun v s4 ⟨x,H4,I4,r4,e1,e2⟩=>?_);subst e1 e2;obtain⟨tk,rfl⟩:=r4;refine⟨l2,?_⟩;refine PyProof.Rows.joinParts_cons (PyProof.Rows.FormattedValue_plain (thn (hb pins s4 σ H4 _ I4 q) fun v s5 ⟨x,H5,I5,r5,q⟩=>?_));obtain⟨j,rfl,⟨l3,l4⟩,q⟩:=q;obtain⟨tk,rfl⟩:=r5;have z2:(qeO t0 i t1++(toString j:String)).length≤sizeLine:=by
  unfold qef at l4;rw [strLen_append]at l4;lia
 have I6:Inv X pins σ H5 {s5 with toks:=s5.toks+1+1}:=I5.kept (t':=s5.toks+1+1) fun b o e=>e
 refine PyProof.Rows.formatField_int_small l3 ⟨z2,?_⟩;refine PyProof.Rows.joinParts_cons (thn (qfj pins _ σ H5 (fun x H1=>x=.str t2∧H1=H5) I6 ⟨rfl,rfl⟩) fun v s7 ⟨x,H7,I7,r7,e1,e2⟩=>?_);subst e1 e2;obtain⟨tk,rfl⟩:=r7;refine⟨l4,PyProof.Rows.joinParts_nil ?_ l4⟩;exact⟨.str _,H7,I7.kept (t':=s7.toks+1) fun b o e=>e,⟨_,rfl⟩,q⟩
end
noncomputable def qbc(kX:Str→Option NameKind)(NX NY:List Str)(cap:List (Option Nat))(scope:Scope):Bool:=
 (scope.kind==.function)&&(scope.names.all fun y=>(y.2 != .cell||scope.names.lookup y.1==some .cell)&&(y.2 != .local||scope.names.lookup y.1==some .local)&&(y.2 != .free||kX y.1==some .cell||kX y.1==some .free)) &&
 (cap.length==NY.length)&&(List.range cap.length).all fun i=>match cap[i]? with
  |some (some j)=>(match NY[i]?,NX[j]? with
   |some x,some y=>x==y&&scope.names.lookup x==some .free&&(kX x==some .cell||kX x==some .free)
   |_,_=>false)
  |_=>true
theorem zJ.of{X:Cx}{NY:List Str}{cap:List (Option Nat)}{scope:Scope}(h:qbc X.env.kindOf X.N NY cap scope=true):zJ X NY cap scope:=by
 unfold qbc at h;simp only [Bool.and_eq_true,List.all_eq_true,beq_iff_eq]at h;obtain⟨⟨⟨h1,h2⟩,h3⟩,h4⟩:=h;refine⟨h1,fun y hy e=>?_,fun y hy e=>?_,fun y hy e=>?_,h3,fun i j hc=>?_⟩
 ·have:=(h2 y hy).1.1;rw [e]at this
  simpa using this
 ·have:=(h2 y hy).1.2;rw [e]at this
  simpa using this
 ·have:=(h2 y hy).2;rw [e]at this
  simpa using this
 ·have hi:i<cap.length:=(List.getElem?_eq_some_iff.mp hc).1;have:=h4 i (List.mem_range.mpr hi);rw [hc]at this;dsimp only at this;split at this
  ·rename_i x y e1 e2
   simp only [Bool.and_eq_true,beq_iff_eq,Bool.or_eq_true]at this;obtain⟨⟨e3,e4⟩,e5⟩:=this;subst e3;exact⟨x,e1,e2,e4,e5⟩
  ·cases this
end L2
namespace WB
open PySem PySem.Spec PyProof.Rows L2
section
variable{P:Program}{w:World}{K:PySem.W.Frag}{mg:Str→Option Value}{base:Heap}{f g:Addr}{fd gd:FuncData}
theorem _root_.L2.Fun.ok1{x qual:Str}{st:Stmt}{f:Addr}{fd:FuncData}{N ps:List Str}{k:Nat}{sp:Sp}(F:Fun K x qual st f fd)(S:qcY N ps (zk st))(len:∀vs H Q E,sp vs H Q E→vs.length=ps.length)
  (hbody:∀(cdv:Value) (A:Around) (outer:List Env) (s:Shared) (H:Hp) (vs:List V) (Q:VK) (E:XK),qbi k (A.deeper (envOfC qual (zk st) s.heap.objs.size f cdv))→sp vs H Q E →
   ∃t,PSs (qdy (CX1 P w) P w K mg base N qual (zk st) f cdv A outer s H E) (qao st) t∧t {nx:=fun _ H'=>Q .non H',rt:=Q} (start N vs) H):qdU P w K mg base (CX1 P w) (k+1) f fd ps sp:=by
 obtain⟨oc,od,kV,doc,pm,an,cdv,ct,osl,rfl,lk,hcd⟩:=F.ex;exact qsQ lk hcd S len fun A outer s H vs Q E hr hsp=>hbody cdv A outer s H vs Q E hr hsp
end
noncomputable def qoI(H:Hp)(ps:List Addr)(ks:List (Int×Int)):Prop:=ps.length=ks.length∧∀(i:Nat) p k,ps[i]? = some p→ks[i]? = some k→H p=some (.tup [.int k.1,.int k.2])
structure Built(H0:Hp)(acc:Addr)(ks:List (Int×Int))(H:Hp):Prop where
 ex:∃ps:List Addr,H acc=some (.lst (ps.map V.ref))∧qoI H ps ks
 same:∀b o,b≠acc→H0 b=some o→H b=some o
end WB
set_option genSizeOf false
set_option genSizeOfSpec false
namespace EV
open PySem L2
inductive D where
 |non|bl (b:Bool)|int (i:Int)|str (x:Str)|tup (xs:List D)|lst (xs:List D)|fn (x:Str)|exn (c:Str)|dic
inductive R(α:Type) where
 |ok (a:α)|ex (c:Str)|no
noncomputable def R.bind{α β:Type}:R α→(α→R β)→R β
 | .ok a,f=>f a
 | .ex c,_=>.ex c
 | .no,_=>.no
@[simp] theorem R.bind_ok{α β:Type}(a:α)(f:α→R β):(R.ok a).bind f=f a:=rfl
@[simp] theorem R.bind_ex{α β:Type}(c:Str)(f:α→R β):(R.ex c:R α).bind f=.ex c:=rfl
@[simp] theorem R.bind_no{α β:Type}(f:α→R β):(R.no:R α).bind f=.no:=rfl
inductive O2 where
 |add|sub|mul|fdiv|mod|pow|shl|shr|band|bor|bxor
 deriving DecidableEq
inductive C2 where
 |eq|ne|lt|le|gt|ge|isin|notin|is|isnot
 deriving DecidableEq
inductive B1 where
 |len|tuple|list|sorted|all|any|sum|min|max|abs|int|bool
 deriving DecidableEq
inductive Cl where
 |ty (n:String)|ex (x:Str)
 deriving DecidableEq
inductive Tg where
 |nm (i:Nat)|tp (is:List Nat)
mutual
inductive E where
 |var (i:Nat)|own (i:Nat)|con (d:D)|glb (x:Str)|fnv (x:Str)
 |op (o:O2) (a b:E)|neg (a:E)|inv (a:E)|not (a:E)|and (a b:E)|or (a b:E)
 |cmp (c:C2) (a b:E)|cmp2 (c c':C2) (a b d:E)|cmp3 (c c' c'':C2) (a b d e:E)
 |ite (t:T) (a b:E)
 |tup (es:Es)|lst (es:Es)
 |ix (a b:E)|sl (a:E) (lo hi:OE)
 |call (f:Str) (es:Es)|callE (f:E) (es:Es)
 |bi (b:B1) (es:Es)
 |rtup (a:It)|rlst (a:It)
 |isi (a:E) (c:Cl)
 |comp (it:It) (cap:List (Option Nat)) (tg:Tg) (t:T) (elt:E)
 |mth (ix:Bool) (a:E)
 |cnt (a b:E)
 |mxk (mx:Bool) (a:E)
 |dic
 |callo (f:Str) (es:Es)
 |comp2 (it:It) (cap:List (Option Nat)) (tg:Tg) (it2:It) (tg2:Tg) (t:T) (elt:E)
 |fst2 (t0:Str) (a:E) (t1:Str) (b:E) (t2:Str)
 |sset (ln:Bool) (a:E)
 |rev (a:E)
inductive OE where
 |none|some (e:E)
inductive Es where
 |nil|cons (e:E) (es:Es)
inductive It where
 |seq (e:E)|rng (a:E)|rng2 (a b:E)|enum (e:E)|zip (a b:E)|rng3 (a b k:E)
inductive T where
 |yes|val (e:E)|cmp (c:C2) (a b:E)|cmp2 (c c':C2) (a b d:E)|and (a b:T)|or (a b:T)|not (a:T)
end
noncomputable def SZ:Nat:=1000000
noncomputable def small(j:Int):Bool:=decide (-(2^64)<j)&&decide (j<2^64)
noncomputable def opI:O2→Int→Int→R D
 | .add,i,j=>.ok (.int (i+j))
 | .sub,i,j=>.ok (.int (i-j))
 | .mul,i,j=>if small i||small j then .ok (.int (i * j))else .no
 | .fdiv,i,j=>if 0<j∧j<1000000000000000000000000000000 then .ok (.int (i/j))else .no
 | .mod,i,j=>if 0<j then .ok (.int (i%j))else .no
 | .pow,i,j=>if 0≤j∧j≤1000000∧i.natAbs<2^64 then .ok (.int (i^j.toNat))else .no
 | .shl,i,j=>if 0≤j∧j≤1000000∧i.natAbs<2^64 then .ok (.int (i * 2^j.toNat))else .no
 | .shr,i,j=>if 0≤j then .ok (.int (i/2^j.toNat))else .no
 | .band,i,j=>.ok (.int (Builtin.bitAnd i j))
 | .bor,i,j=>.ok (.int (Builtin.bitOr i j))
 | .bxor,i,j=>.ok (.int (Builtin.bitXor i j))
noncomputable def qog:D→Bool
 | .lst _=>true
 |_=>false
noncomputable def op2(o:O2):D→D→R D
 | .int i,.int j=>opI o i j
 | .tup xs,.tup ys=>if o=.add∧xs.length+ys.length≤SZ then .ok (.tup (xs++ys))else .no
 | .lst xs,.lst ys=>if o=.add∧xs.length+ys.length≤SZ then .ok (.lst (xs++ys))else .no
 | .lst xs,.int j=>if o=.mul∧0≤j∧xs.length * j.toNat≤SZ∧j≤1000000 then .ok (.lst (List.replicate j.toNat xs).flatten)else .no
 | .tup xs,.int j=>if o=.mul∧0≤j∧xs.length * j.toNat≤SZ∧j≤1000000 then .ok (.tup (List.replicate j.toNat xs).flatten)else .no
 |_,_=>.no
mutual
noncomputable def D.plain:D→Bool
 | .non=>true
 | .bl _=>true
 | .int _=>true
 | .str x=>PyData.strOk x
 | .tup xs=>plainAll xs
 | .lst xs=>plainAll xs
 | .fn _=>false
 | .exn _=>false
 | .dic=>false
noncomputable def plainAll:List D→Bool
 | []=>true
 |x::xs=>x.plain&&plainAll xs
end
mutual
noncomputable def D.deep:D→Nat
 | .tup xs=>qar xs+1
 | .lst xs=>qar xs+1
 |_=>0
noncomputable def qar:List D→Nat
 | []=>0
 |x::xs=>max x.deep (qar xs)
end
mutual
noncomputable def D.eqv:D→D→Bool
 | .non,.non=>true
 | .bl a,.bl b=>a==b
 | .bl a,.int j=>(if a then 1 else 0)==j
 | .int i,.bl b=>i==(if b then 1 else 0)
 | .int i,.int j=>i==j
 | .str x,.str y=>x==y
 | .tup xs,.tup ys=>eqvAll xs ys
 | .lst xs,.lst ys=>eqvAll xs ys
 |_,_=>false
noncomputable def eqvAll:List D→List D→Bool
 | [],[]=>true
 |x::xs,y::ys=>x.eqv y&&eqvAll xs ys
 |_,_=>false
end
noncomputable def D.asks(d:D):Bool:=d.plain&&decide (d.deep≤20)
mutual
noncomputable def D.noL:D→Bool
 | .non=>true
 | .bl _=>true
 | .int _=>true
 | .str _=>true
 | .tup xs=>qns xs
 |_=>false
noncomputable def qns:List D→Bool
 | []=>true
 |x::xs=>x.noL&&qns xs
end
noncomputable def ints?:List D→Option (List Int)
 | []=>some []
 | .int i::r=>(ints? r).map (i :: ·)
 |_=>none
noncomputable def bools?:List D→Option (List Bool)
 | []=>some []
 | .bl i::r=>(bools? r).map (i :: ·)
 |_=>none
noncomputable def pairs?:List D→Option (List (Int×Int))
 | []=>some []
 | .tup [.int i,.int j]::r=>(pairs? r).map ((i,j) :: ·)
 |_=>none
noncomputable def seq?:D→Option (List D)
 | .tup xs=>some xs
 | .lst xs=>some xs
 |_=>none
noncomputable def qbh:List Int→List Int→Bool
 | [],[]=>false
 | [],_::_=>true
 |_::_,[]=>false
 |a::r,b::t=>if a=b then qbh r t else decide (a<b)
noncomputable def qgY(c:C2)(i j:Int):Option Bool:=
 match c with
 | .lt=>some (decide (i<j))
 | .le=>some (decide (i≤j))
 | .gt=>some (decide (j<i))
 | .ge=>some (decide (j≤i))
 | .eq=>some (decide (i=j))
 | .ne=>some (!decide (i=j))
 |_=>none
noncomputable def inD(x:D)(xs:List D):Bool:=xs.any fun y=>y.eqv x
noncomputable def qfg:D→Bool
 | .non=>true
 |_=>false
noncomputable def isB(n:Bool):D→D→R Bool
 | .bl a,.bl b=>.ok (n != (a==b))
 |_,_=>.no
noncomputable def qi:C2→D→D→R Bool
 | .is,a,b=>if qfg b then .ok (qfg a)else isB false a b
 | .isnot,a,b=>if qfg b then .ok (!qfg a)else isB true a b
 | .isin,a,b=>match seq? b with
  |some xs=>if a.asks&&xs.all D.asks then .ok (inD a xs)else .no
  |none=>.no
 | .notin,a,b=>match seq? b with
  |some xs=>if a.asks&&xs.all D.asks then .ok (!inD a xs)else .no
  |none=>.no
 | .eq,a,b=>if a.asks&&b.asks then .ok (a.eqv b)else .no
 | .ne,a,b=>if a.asks&&b.asks then .ok (!a.eqv b)else .no
 | .lt,.tup xs,.tup ys=>match ints? xs,ints? ys with
  |some ns,some ms=>.ok (qbh ns ms)
  |_,_=>.no
 |c,.int i,.int j=>match qgY c i j with
  |some b=>.ok b
  |none=>.no
 |_,_,_=>.no
noncomputable def truth:D→R Bool
 | .non=>.ok false
 | .bl b=>.ok b
 | .int i=>.ok (i != 0)
 | .tup xs=>.ok (!xs.isEmpty)
 | .lst xs=>.ok (!xs.isEmpty)
 |_=>.no
noncomputable def ixD:D→D→R D
 | .tup xs,.int i=>match atI xs i with|some d=>.ok d|none=>.no
 | .lst xs,.int i=>match atI xs i with|some d=>.ok d|none=>.no
 |_,_=>.no
noncomputable def cutD(xs:List D)(lo hi:Option Int):List D:=(xs.drop (HT.sIx xs.length 0 lo)).take (HT.sIx xs.length xs.length hi-HT.sIx xs.length 0 lo)
noncomputable def slD:D→Option Int→Option Int→R D
 | .tup xs,lo,hi=>.ok (.tup (cutD xs lo hi))
 | .lst xs,lo,hi=>.ok (.lst (cutD xs lo hi))
 |_,_,_=>.no
noncomputable def insI(i:Int):List Int→List Int
 | []=>[i]
 |j::r=>if i≤j then i::j::r else j::insI i r
noncomputable def sortI:List Int→List Int
 | []=>[]
 |i::r=>insI i (sortI r)
noncomputable def qdl(p:Int×Int):List (Int×Int)→List (Int×Int)
 | []=>[p]
 |q::r=>if ltP q p then q::qdl p r else p::q::r
noncomputable def zG:List (Int×Int)→List (Int×Int)
 | []=>[]
 |p::r=>qdl p (zG r)
noncomputable def pairD(p:Int×Int):D:=.tup [.int p.1,.int p.2]
noncomputable def qcl(d:D)(k:List D→R D):R D:=match d with | .lst xs=>k xs|_=>.no
noncomputable def ibR(d:D)(f:Int→R D)(q:Bool→R D):R D:=match d with | .int i=>f i | .bl b=>q b|_=>.no
noncomputable def iiR(d e:D)(k:Int→Int→R D):R D:=match d,e with | .int i,.int j=>k i j|_,_=>.no
noncomputable def qaq{α β:Type}(o:Option α)(k:α→R β):R β:=match o with|some a=>k a|none=>.no
noncomputable def tups?:List D→Option (List (List Int))
 | []=>some []
 | .tup xs::r=>(ints? xs).bind fun n=>(tups? r).map (n :: ·)
 |_=>none
noncomputable def qdA(p:List Int):List (List Int)→List (List Int)
 | []=>[p]
 |q::r=>if qbh q p then q::qdA p r else p::q::r
noncomputable def qaO:List (List Int)→List (List Int)
 | []=>[]
 |p::r=>qdA p (qaO r)
noncomputable def qeJ(l:List Int):D:=.tup (l.map D.int)
noncomputable def qda:List (List Int)→Bool
 |p::q::r=>p.isEmpty||(p::q::r).all fun t=>!t.isEmpty
 |_=>false
noncomputable def qay(xs:List D):R D:=if xs.length<64 then qaq (tups? xs) fun ts=>if qda ts then .ok (.lst ((qaO ts).map qeJ))else .no else .no
noncomputable def qkb(mx:Bool)(i:Int):List Int→Int
 | []=>i
 |j::r=>qkb mx (if mx then (if i<j then j else i)else (if j<i then j else i)) r
noncomputable def b11(b:B1)(d:D):R D:=match b with
 | .len=>qaq (seq? d) fun xs=>.ok (.int xs.length)
 | .tuple=>qaq (seq? d) fun xs=>.ok (.tup xs)
 | .list=>qaq (seq? d) fun xs=>.ok (.lst xs)
 | .all=>qcl d fun xs=>qaq (bools? xs) fun bs=>.ok (.bl (bs.all id))
 | .any=>qcl d fun xs=>qaq (bools? xs) fun bs=>.ok (.bl (bs.any id))
 | .sorted=>match d with
  | .tup xs=>if xs.length<64 then qaq (ints? xs) fun ns=>.ok (.lst ((sortI ns).map D.int))else .no
  |d=>qcl d fun xs=>if xs.length<64 then (match ints? xs with
   |some ns=>.ok (.lst ((sortI ns).map D.int))
   |none=>match pairs? xs with
    |some ps=>.ok (.lst ((zG ps).map pairD))
    |none=>qay xs)else qay xs
 | .abs=>ibR d (fun i=>.ok (.int (if i<0 then -i else i))) fun _=>.no
 | .int=>ibR d (fun i=>.ok (.int i)) fun b=>.ok (.int (if b then 1 else 0))
 | .bool=>ibR d (fun i=>.ok (.bl (i != 0))) fun b=>.ok (.bl b)
 | .min=>.no
 | .max=>.no
 | .sum=>qcl d fun xs=>qaq (ints? xs) fun ns=>.ok (.int ns.sum)
noncomputable def b12(b:B1)(d e:D):R D:=match b with
 | .min=>iiR d e fun i j=>.ok (.int (if j<i then j else i))
 | .max=>iiR d e fun i j=>.ok (.int (if j>i then j else i))
 |_=>.no
noncomputable def uq{α:Type} [DecidableEq α]:List α→List α
 | []=>[]
 |a::l=>if a∈l then uq l else a::uq l
noncomputable def qfc(ln:Bool)(d:D):R D:=qaq (seq? d) fun xs=>if xs.length<64 then (qaq (tups? xs) fun ts=>if ln then .no else if ts.all (fun t=>!t.isEmpty)then .ok (.lst ((qaO (uq ts)).map qeJ))else .no)else .no
noncomputable def b1(b:B1):List D→R D
 | [d]=>b11 b d
 | [d,e]=>b12 b d e
 |_=>.no
noncomputable def tyD:D→Option String
 | .non=>some "NoneType"
 | .bl _=>some "bool"
 | .int _=>some "int"
 | .str _=>some "str"
 | .tup _=>some "tuple"
 | .lst _=>some "list"
 | .dic=>some "dict"
 |_=>none
noncomputable def zD(lo:Int)(n:Nat):List D:=(List.range n).map fun(i:Nat)=>.int (lo+(i:Int))
noncomputable def qcV(lo st:Int)(n:Nat):List D:=(List.range n).map fun(i:Nat)=>.int (lo+(i:Int) * st)
noncomputable def zV:Nat→List D→List D
 |_,[]=>[]
 |k,x::r=>.tup [.int k,x]::zV (k+1) r
noncomputable def qe(j:Int):Bool:=decide (-1000000≤j)&&decide (j≤1000000)
abbrev Env:=List (Option D)
structure W where
 call:Str→List D→R D
 glb:Str→Option D
 sub:Str→Cl→Option Bool
 cat:Str→Str→Bool
noncomputable def qaY(w:W)(x:D)(c:Cl):R D:=match tyD x,c with
 |some t,.ty n=>if n = "ValueError" then .no else .ok (.bl (qeU t n))
 |none,c=>match x with
  | .exn k=>match w.sub k c with|some b=>.ok (.bl b)|none=>.no
  |_=>.no
 |_,_=>.no
noncomputable def zY(τ:Env)(i:Nat):R D:=match τ[i]? with
 |some (some d)=>.ok d
 |_=>.no
noncomputable def setAll:List Nat→List D→Env→R Env
 | [],[],τ=>.ok τ
 |i::is,d::ds,τ=>setAll is ds (τ.set i (some d))
 |_,_,_=>.no
noncomputable def store:Tg→D→Env→R Env
 | .nm i,d,τ=>.ok (τ.set i (some d))
 | .tp is,.tup ds,τ=>if ds.length=is.length then setAll is ds τ else .no
 |_,_,_=>.no
noncomputable def qaz(cap:List (Option Nat))(τ:Env):Env:=cap.map fun o=>o.bind fun j=>(τ[j]?).join
noncomputable def noEx{α:Type}:R α→R α
 | .ok a=>.ok a
 |_=>.no
noncomputable def zA(body:D→Env→R (Env×List D)):List D→Env→List D→R (List D)
 | [],_,acc=>.ok acc
 |x::r,τ,acc=>(body x τ).bind fun p=>zA body r p.1 (acc++p.2)
noncomputable def qaW(body:D→Env→R (Env×List D)):List D→Env→List D→R (Env×List D)
 | [],τ,acc=>.ok (τ,acc)
 |x::r,τ,acc=>(body x τ).bind fun p=>qaW body r p.1 (acc++p.2)
mutual
noncomputable def evE(w:W):E→Env→R D
 | .var i,τ=>zY τ i
 | .own i,τ=>zY τ i
 | .con d,_=>.ok d
 | .glb x,_=>match w.glb x with|some d=>.ok d|none=>.no
 | .fnv x,_=>.ok (.fn x)
 | .op o a b,τ=>(evE w a τ).bind fun x=>(evE w b τ).bind fun y=>op2 o x y
 | .neg a,τ=>(evE w a τ).bind fun x=>match x with | .int i=>.ok (.int (-i))|_=>.no
 | .inv a,τ=>(evE w a τ).bind fun x=>match x with | .int i=>.ok (.int (Builtin.bitNot i))|_=>.no
 | .not a,τ=>(evE w a τ).bind fun x=>match x with | .bl b=>.ok (.bl (!b))|_=>.no
 | .and a b,τ=>(evE w a τ).bind fun x=>match x with | .bl true=>evE w b τ | .bl false=>.ok (.bl false)|_=>.no
 | .or a b,τ=>(evE w a τ).bind fun x=>match x with | .bl true=>.ok (.bl true) | .bl false=>evE w b τ|_=>.no
 | .cmp c a b,τ=>(evE w a τ).bind fun x=>(evE w b τ).bind fun y=>(qi c x y).bind fun r=>.ok (.bl r)
 | .cmp2 c c' a b d,τ=>(evE w a τ).bind fun x=>(evE w b τ).bind fun y=>(qi c x y).bind fun r=>if r then (evE w d τ).bind fun z=>(qi c' y z).bind fun r'=>.ok (.bl r')else .ok (.bl false)
 | .cmp3 c c' c'' a b d e,τ=>(evE w a τ).bind fun x=>(evE w b τ).bind fun y=>(qi c x y).bind fun r=>if r then (evE w d τ).bind fun z=>(qi c' y z).bind fun r'=>if r' then (evE w e τ).bind fun u=>(qi c'' z u).bind fun r''=>.ok (.bl r'')else .ok (.bl false)else .ok (.bl false)
 | .ite t a b,τ=>(evT w t τ).bind fun r=>if r then evE w a τ else evE w b τ
 | .tup es,τ=>(zx w es τ).bind fun ds=>.ok (.tup ds)
 | .lst es,τ=>(zx w es τ).bind fun ds=>.ok (.lst ds)
 | .ix a b,τ=>(evE w a τ).bind fun x=>(evE w b τ).bind fun y=>ixD x y
 | .sl a lo hi,τ=>(evE w a τ).bind fun x=>(evO w lo τ).bind fun l=>(evO w hi τ).bind fun h=>slD x l h
 | .call f es,τ=>(zx w es τ).bind fun ds=>w.call f ds
 | .callE f es,_=>.no
 | .bi b es,τ=>(zx w es τ).bind fun ds=>b1 b ds
 | .rtup a,τ=>(evI w a τ).bind fun ds=>.ok (.tup ds)
 | .rlst a,τ=>(evI w a τ).bind fun ds=>.ok (.lst ds)
 | .isi a c,τ=>(evE w a τ).bind fun x=>qaY w x c
 | .comp it cap tg t elt,τ=>(evI w it τ).bind fun ds=>if SZ<ds.length then .no else (zA (fun x σ=>noEx ((store tg x σ).bind fun σ'=>(evT w t σ').bind fun r=>if r then (evE w elt σ').bind fun d=>.ok (σ',[d])else .ok (σ',[]))) ds (qaz cap τ) []).bind fun out=>.ok (.lst out)
 | .mth ix a,_=>.no
 | .cnt a b,_=>.no
 | .mxk mx a,_=>.no
 | .dic,_=>.ok .dic
 | .callo f es,τ=>(zx w es τ).bind fun ds=>(w.call f ds).bind fun d=>if d.noL then .ok d else .no
 | .comp2 it cap tg it2 tg2 t elt,τ=>(evI w it τ).bind fun ds=>if 1000<ds.length then .no else (zA (fun x σ=>noEx ((store tg x σ).bind fun σ'=>(evI w it2 σ').bind fun es=>if 1000<es.length then .no else qaW (fun y ρ=>(store tg2 y ρ).bind fun ρ'=>(evT w t ρ').bind fun r=>if r then (evE w elt ρ').bind fun d=>.ok (ρ',[d])else .ok (ρ',[])) es σ' [])) ds (qaz cap τ) []).bind fun out=>.ok (.lst out)
 | .fst2 t0 a t1 b t2,τ=>(evE w a τ).bind fun x=>match x with
  | .int i=>if qe i&&decide ((L2.qeO t0 i t1).length≤SZ)then (evE w b τ).bind fun y=>(match y with
   | .int j=>if qe j&&decide ((L2.qef t0 i t1 j t2).length≤SZ)then .ok (.str (L2.qef t0 i t1 j t2))else .no
   |_=>.no)else .no
  |_=>.no
 | .sset ln a,τ=>(evE w a τ).bind (qfc ln)
 | .rev a,τ=>(evE w a τ).bind fun x=>match x with
  | .tup xs=>.ok (.tup xs.reverse)
  |_=>.no
noncomputable def evO(w:W):OE→Env→R (Option Int)
 | .none,_=>.ok none
 | .some e,τ=>(evE w e τ).bind fun x=>match x with | .int i=>.ok (some i)|_=>.no
noncomputable def zx(w:W):Es→Env→R (List D)
 | .nil,_=>.ok []
 | .cons e es,τ=>(evE w e τ).bind fun d=>(zx w es τ).bind fun ds=>.ok (d::ds)
noncomputable def evI(w:W):It→Env→R (List D)
 | .seq e,τ=>(evE w e τ).bind fun x=>match seq? x with|some xs=>.ok xs|none=>.no
 | .rng a,τ=>(evE w a τ).bind fun x=>match x with | .int j=>if qe j then .ok (zD 0 j.toNat)else .no|_=>.no
 | .rng2 a b,τ=>(evE w a τ).bind fun x=>(evE w b τ).bind fun y=>match x,y with | .int i,.int j=>if qe i&&qe j then .ok (zD i (j-i).toNat)else .no|_,_=>.no
 | .enum e,τ=>(evE w e τ).bind fun x=>match x with | .lst xs=>.ok (zV 0 xs)|_=>.no
 | .zip a b,_=>.no
 | .rng3 a b k,τ=>(evE w a τ).bind fun x=>(evE w b τ).bind fun y=>(evE w k τ).bind fun z=>match x with
  | .int i=>(match y with
   | .int j=>(match z with
    | .int l=>if qe i&&qe j&&(decide (0<l)&&qe l)then .ok (qcV i l (L2.qaS i j l))else .no
    |_=>.no)
   |_=>.no)
  |_=>.no
noncomputable def evT(w:W):T→Env→R Bool
 | .yes,_=>.ok true
 | .val e,τ=>(evE w e τ).bind fun x=>truth x
 | .cmp c a b,τ=>(evE w a τ).bind fun x=>(evE w b τ).bind fun y=>qi c x y
 | .cmp2 c c' a b d,τ=>(evE w a τ).bind fun x=>(evE w b τ).bind fun y=>(qi c x y).bind fun r=>if r then (evE w d τ).bind fun z=>qi c' y z else .ok false
 | .and a b,τ=>(evT w a τ).bind fun r=>if r then evT w b τ else .ok false
 | .or a b,τ=>(evT w a τ).bind fun r=>if r then .ok true else evT w b τ
 | .not a,τ=>(evT w a τ).bind fun r=>.ok (!r)
end
theorem qX:∀{w i τ},@Eq (R D) (evE w (.var i) τ) (zY τ i):=rfl
theorem zc:∀{w i τ},@Eq (R D) (evE w (.own i) τ) (zY τ i):=rfl
theorem zb:∀{w d τ},@Eq (R D) (evE w (.con d) τ) (.ok d):=rfl
theorem zh:∀{w x τ},@Eq (R D) (evE w (.glb x) τ) (match w.glb x with|some d=>.ok d|none=>.no):=rfl
theorem zf:∀{w x τ},@Eq (R D) (evE w (.fnv x) τ) (.ok (.fn x)):=rfl
theorem qY:∀{w o a b τ},@Eq (R D) (evE w (.op o a b) τ) ((evE w a τ).bind fun x=>(evE w b τ).bind fun y=>op2 o x y):=rfl
theorem ze:∀{w a τ},@Eq (R D) (evE w (.neg a) τ) ((evE w a τ).bind fun x=>match x with | .int i=>.ok (.int (-i))|_=>.no):=rfl
theorem zi:∀{w a τ},@Eq (R D) (evE w (.inv a) τ) ((evE w a τ).bind fun x=>match x with | .int i=>.ok (.int (Builtin.bitNot i))|_=>.no):=rfl
theorem zg:∀{w a τ},@Eq (R D) (evE w (.not a) τ) ((evE w a τ).bind fun x=>match x with | .bl b=>.ok (.bl (!b))|_=>.no):=rfl
theorem qK:∀{w a b τ},@Eq (R D) (evE w (.and a b) τ) ((evE w a τ).bind fun x=>match x with | .bl true=>evE w b τ | .bl false=>.ok (.bl false)|_=>.no):=rfl
theorem qB:∀{w a b τ},@Eq (R D) (evE w (.or a b) τ) ((evE w a τ).bind fun x=>match x with | .bl true=>.ok (.bl true) | .bl false=>evE w b τ|_=>.no):=rfl
theorem qJ:∀{w c a b τ},@Eq (R D) (evE w (.cmp c a b) τ) ((evE w a τ).bind fun x=>(evE w b τ).bind fun y=>(qi c x y).bind fun r=>.ok (.bl r)):=rfl
theorem qD:∀{w c c' a b d τ},@Eq (R D) (evE w (.cmp2 c c' a b d) τ) ((evE w a τ).bind fun x=>(evE w b τ).bind fun y=>(qi c x y).bind fun r=>if r then (evE w d τ).bind fun z=>(qi c' y z).bind fun r'=>.ok (.bl r')else .ok (.bl false)):=rfl
theorem qF:∀{w c c' c'' a b d e τ},@Eq (R D) (evE w (.cmp3 c c' c'' a b d e) τ) ((evE w a τ).bind fun x=>(evE w b τ).bind fun y=>(qi c x y).bind fun r=>if r then (evE w d τ).bind fun z=>(qi c' y z).bind fun r'=>if r' then (evE w e τ).bind fun u=>(qi c'' z u).bind fun r''=>.ok (.bl r'')else .ok (.bl false)else .ok (.bl false)):=rfl
theorem qW:∀{w t a b τ},@Eq (R D) (evE w (.ite t a b) τ) ((evT w t τ).bind fun r=>if r then evE w a τ else evE w b τ):=rfl
theorem qI:∀{w es τ},@Eq (R D) (evE w (.tup es) τ) ((zx w es τ).bind fun ds=>.ok (.tup ds)):=rfl
theorem qC:∀{w es τ},@Eq (R D) (evE w (.lst es) τ) ((zx w es τ).bind fun ds=>.ok (.lst ds)):=rfl
theorem qw:∀{w a b τ},@Eq (R D) (evE w (.ix a b) τ) ((evE w a τ).bind fun x=>(evE w b τ).bind fun y=>ixD x y):=rfl
theorem qL:∀{w a lo hi τ},@Eq (R D) (evE w (.sl a lo hi) τ) ((evE w a τ).bind fun x=>(evO w lo τ).bind fun l=>(evO w hi τ).bind fun h=>slD x l h):=rfl
theorem qH:∀{w f es τ},@Eq (R D) (evE w (.call f es) τ) ((zx w es τ).bind fun ds=>w.call f ds):=rfl
theorem qP:∀{w f es τ},@Eq (R D) (evE w (.callE f es) τ) (.no):=rfl
theorem qr:∀{w b es τ},@Eq (R D) (evE w (.bi b es) τ) ((zx w es τ).bind fun ds=>b1 b ds):=rfl
theorem qA:∀{w a τ},@Eq (R D) (evE w (.rtup a) τ) ((evI w a τ).bind fun ds=>.ok (.tup ds)):=rfl
theorem qR:∀{w a τ},@Eq (R D) (evE w (.rlst a) τ) ((evI w a τ).bind fun ds=>.ok (.lst ds)):=rfl
theorem qE:∀{w a c τ},@Eq (R D) (evE w (.isi a c) τ) ((evE w a τ).bind fun x=>qaY w x c):=rfl
theorem qx:∀{w it cap tg t elt τ},@Eq (R D) (evE w (.comp it cap tg t elt) τ) ((evI w it τ).bind fun ds=>if SZ<ds.length then .no else (zA (fun x σ=>noEx ((store tg x σ).bind fun σ'=>(evT w t σ').bind fun r=>if r then (evE w elt σ').bind fun d=>.ok (σ',[d])else .ok (σ',[]))) ds (qaz cap τ) []).bind fun out=>.ok (.lst out)):=rfl
theorem qO:∀{w ix a τ},@Eq (R D) (evE w (.mth ix a) τ) (.no):=rfl
theorem qN:∀{w a b τ},@Eq (R D) (evE w (.cnt a b) τ) (.no):=rfl
theorem qS:∀{w mx a τ},@Eq (R D) (evE w (.mxk mx a) τ) (.no):=rfl
theorem qM:∀{w τ},@Eq (R D) (evE w (.dic) τ) (.ok .dic):=rfl
theorem qQ:∀{w f es τ},@Eq (R D) (evE w (.callo f es) τ) ((zx w es τ).bind fun ds=>(w.call f ds).bind fun d=>if d.noL then .ok d else .no):=rfl
theorem qU:∀{w it cap tg it2 tg2 t elt τ},@Eq (R D) (evE w (.comp2 it cap tg it2 tg2 t elt) τ) ((evI w it τ).bind fun ds=>if 1000<ds.length then .no else (zA (fun x σ=>noEx ((store tg x σ).bind fun σ'=>(evI w it2 σ').bind fun es=>if 1000<es.length then .no else qaW (fun y ρ=>(store tg2 y ρ).bind fun ρ'=>(evT w t ρ').bind fun r=>if r then (evE w elt ρ').bind fun d=>.ok (ρ',[d])else .ok (ρ',[])) es σ' [])) ds (qaz cap τ) []).bind fun out=>.ok (.lst out)):=rfl
theorem qV:∀{w t0 a t1 b t2 τ},@Eq (R D) (evE w (.fst2 t0 a t1 b t2) τ) ((evE w a τ).bind fun x=>match x with
  | .int i=>if qe i&&decide ((L2.qeO t0 i t1).length≤SZ)then (evE w b τ).bind fun y=>(match y with
   | .int j=>if qe j&&decide ((L2.qef t0 i t1 j t2).length≤SZ)then .ok (.str (L2.qef t0 i t1 j t2))else .no
   |_=>.no)else .no
  |_=>.no):=rfl
theorem qG:∀{w ln a τ},@Eq (R D) (evE w (.sset ln a) τ) ((evE w a τ).bind (qfc ln)):=rfl
theorem qT:∀{w a τ},@Eq (R D) (evE w (.rev a) τ) ((evE w a τ).bind fun x=>match x with
  | .tup xs=>.ok (.tup xs.reverse)
  |_=>.no):=rfl
theorem qcD:∀{w τ},@Eq (R Bool) (evT w (.yes) τ) (.ok true):=rfl
theorem qbB:∀{w e τ},@Eq (R Bool) (evT w (.val e) τ) ((evE w e τ).bind fun x=>truth x):=rfl
theorem qbE:∀{w c a b τ},@Eq (R Bool) (evT w (.cmp c a b) τ) ((evE w a τ).bind fun x=>(evE w b τ).bind fun y=>qi c x y):=rfl
theorem qcG:∀{w c c' a b d τ},@Eq (R Bool) (evT w (.cmp2 c c' a b d) τ) ((evE w a τ).bind fun x=>(evE w b τ).bind fun y=>(qi c x y).bind fun r=>if r then (evE w d τ).bind fun z=>qi c' y z else .ok false):=rfl
theorem qcF:∀{w a b τ},@Eq (R Bool) (evT w (.and a b) τ) ((evT w a τ).bind fun r=>if r then evT w b τ else .ok false):=rfl
theorem qcB:∀{w a b τ},@Eq (R Bool) (evT w (.or a b) τ) ((evT w a τ).bind fun r=>if r then .ok true else evT w b τ):=rfl
theorem qcA:∀{w a τ},@Eq (R Bool) (evT w (.not a) τ) ((evT w a τ).bind fun r=>.ok (!r)):=rfl
mutual
inductive S where
 |set (tg:Tg) (e:E)
 |app (i:Nat) (e:E)
 |seti (i:Nat) (k e:E)
 |exp (e:E)
 |ret (e:E)|retN
 |ite (t:T) (a b:Ss)
 |for (tg:Tg) (it:It) (b:Ss)
 |while (t:T) (b:Ss)
 |raise (c:Str) (es:Es)
 |try (b:Ss) (c:Str) (i:Option Nat) (h:Ss)
 |ins (i:Nat) (k e:E)
 |pass|brk|cnt|unk
 |par (i j:Nat) (a b:E)
 |par3 (i j k:Nat) (a b c:E)
inductive Ss where
 |nil|cons (s:S) (r:Ss)
end
inductive O where
 |nx (τ:Env)|rt (d:D)|bk (τ:Env)|ct (τ:Env)|ex (c:Str)|no
noncomputable def R.out{α:Type}:R α→(α→O)→O
 | .ok a,f=>f a
 | .ex c,_=>.ex c
 | .no,_=>.no
@[simp] theorem R.out_ok{α:Type}(a:α)(f:α→O):(R.ok a).out f=f a:=rfl
@[simp] theorem R.out_ex{α:Type}(c:Str)(f:α→O):(R.ex c:R α).out f=.ex c:=rfl
@[simp] theorem R.out_no{α:Type}(f:α→O):(R.no:R α).out f=.no:=rfl
noncomputable def qaX(tg:Tg)(body:Env→O):List D→Env→O
 | [],τ=>.nx τ
 |x::r,τ=>(store tg x τ).out fun τ'=>match body τ' with
  | .nx σ=>qaX tg body r σ
  | .ct σ=>qaX tg body r σ
  | .bk σ=>.nx σ
  |o=>o
noncomputable def qbq(test:Env→R Bool)(body:Env→O):Nat→Env→O
 | 0,_=>.no
 |n+1,τ=>(test τ).out fun b=>if b then (match body τ with
  | .nx σ=>qbq test body n σ
  | .ct σ=>qbq test body n σ
  | .bk σ=>.nx σ
  |o=>o)else .nx τ
noncomputable def qeZ:Nat:=100000
noncomputable def O.noEx:O→O
 | .ex _=>.no
 |o=>o
mutual
noncomputable def evS(w:W):S→Env→O
 | .set tg e,τ=>(evE w e τ).out fun d=>(store tg d τ).out .nx
 | .app i e,τ=>(zY τ i).out fun x=>(evE w e τ).out fun d=>match x with
  | .lst xs=>if xs.length<SZ then .nx (τ.set i (some (.lst (xs++[d]))))else .no
  |_=>.no
 | .seti i k e,τ=>(evE w e τ).out fun d=>(zY τ i).out fun x=>(evE w k τ).out fun n=>match x,n with
  | .lst xs,.int j=>match ixN xs.length j with
   |some m=>.nx (τ.set i (some (.lst (xs.set m d))))
   |none=>.no
  |_,_=>.no
 | .exp e,τ=>(evE w e τ).out fun _=>.nx τ
 | .ret e,τ=>(evE w e τ).out .rt
 | .retN,_=>.rt .non
 | .ite t a b,τ=>(evT w t τ).out fun r=>if r then qq w a τ else qq w b τ
 | .for tg it b,τ=>((evI w it τ).out fun ds=>qaX tg (fun σ=>qq w b σ) ds τ).noEx
 | .while t b,τ=>(qbq (fun σ=>evT w t σ) (fun σ=>qq w b σ) qeZ τ).noEx
 | .raise c es,_=>.no
 | .try b c i h,_=>.no
 | .ins i k e,_=>.no
 | .unk,_=>.no
 | .pass,τ=>.nx τ
 | .brk,τ=>.bk τ
 | .cnt,τ=>.ct τ
 | .par i j a b,_=>.no
 | .par3 i j k a b c,τ=>(evE w a τ).out fun x=>(evE w b τ).out fun y=>(evE w c τ).out fun z=>.nx (((τ.set i (some x)).set j (some y)).set k (some z))
noncomputable def qq(w:W):Ss→Env→O
 | .nil,τ=>.nx τ
 | .cons s r,τ=>match evS w s τ with
  | .nx σ=>qq w r σ
  |o=>o
end
theorem zL:∀{w tg e τ},@Eq (O) (evS w (.set tg e) τ) ((evE w e τ).out fun d=>(store tg d τ).out .nx):=rfl
theorem qaB:∀{w i e τ},@Eq (O) (evS w (.app i e) τ) ((zY τ i).out fun x=>(evE w e τ).out fun d=>match x with
  | .lst xs=>if xs.length<SZ then .nx (τ.set i (some (.lst (xs++[d]))))else .no
  |_=>.no):=rfl
theorem qan:∀{w i k e τ},@Eq (O) (evS w (.seti i k e) τ) ((evE w e τ).out fun d=>(zY τ i).out fun x=>(evE w k τ).out fun n=>match x,n with
  | .lst xs,.int j=>match ixN xs.length j with
   |some m=>.nx (τ.set i (some (.lst (xs.set m d))))
   |none=>.no
  |_,_=>.no):=rfl
theorem qaA:∀{w e τ},@Eq (O) (evS w (.exp e) τ) ((evE w e τ).out fun _=>.nx τ):=rfl
theorem zU:∀{w e τ},@Eq (O) (evS w (.ret e) τ) ((evE w e τ).out .rt):=rfl
theorem qaw:∀{w τ},@Eq (O) (evS w (.retN) τ) (.rt .non):=rfl
theorem zQ:∀{w t a b τ},@Eq (O) (evS w (.ite t a b) τ) ((evT w t τ).out fun r=>if r then qq w a τ else qq w b τ):=rfl
theorem qaC:∀{w tg it b τ},@Eq (O) (evS w (.for tg it b) τ) (((evI w it τ).out fun ds=>qaX tg (fun σ=>qq w b σ) ds τ).noEx):=rfl
theorem qav:∀{w t b τ},@Eq (O) (evS w (.while t b) τ) ((qbq (fun σ=>evT w t σ) (fun σ=>qq w b σ) qeZ τ).noEx):=rfl
theorem zT:∀{w c es τ},@Eq (O) (evS w (.raise c es) τ) (.no):=rfl
theorem qae:∀{w b c i h τ},@Eq (O) (evS w (.try b c i h) τ) (.no):=rfl
theorem qak:∀{w i k e τ},@Eq (O) (evS w (.ins i k e) τ) (.no):=rfl
theorem qah:∀{w τ},@Eq (O) (evS w (.unk) τ) (.no):=rfl
theorem qac:∀{w τ},@Eq (O) (evS w (.pass) τ) (.nx τ):=rfl
theorem qaj:∀{w τ},@Eq (O) (evS w (.brk) τ) (.bk τ):=rfl
theorem qad:∀{w τ},@Eq (O) (evS w (.cnt) τ) (.ct τ):=rfl
theorem qag:∀{w i j a b τ},@Eq (O) (evS w (.par i j a b) τ) (.no):=rfl
theorem qai:∀{w i j k a b c τ},@Eq (O) (evS w (.par3 i j k a b c) τ) ((evE w a τ).out fun x=>(evE w b τ).out fun y=>(evE w c τ).out fun z=>.nx (((τ.set i (some x)).set j (some y)).set k (some z))):=rfl
structure Fn where
 ps:Nat
 N:Nat
 fr:Bool
 body:Ss
noncomputable def qat(w:W)(f:Fn)(ds:List D):R D:=if ds.length=f.ps then (match qq w f.body (ds.map some++List.replicate (f.N-f.ps) none)with
  | .nx _=>if f.fr then .no else .ok .non
  | .rt d=>.ok d
  | .ex c=>.ex c
  |_=>.no)else .no
structure Pr where
 fns:Str→Option Fn
 glb:Str→Option D
 sub:Str→Cl→Option Bool
 cat:Str→Str→Bool
noncomputable def qc(p:Pr):Nat→Str→List D→R D
 | 0,_,_=>.no
 |k+1,x,ds=>match p.fns x with
  |some f=>qat ⟨qc p k,p.glb,p.sub,p.cat⟩ f ds
  |none=>.no
inductive GK where
  |fn (fresh:Bool)|val|bi (b:B1)|rng|enum|zip|isi|ty (n:String) (b:Option B1)|exc|exk|set
  deriving DecidableEq
structure Cc where
  nm:List (Str×NameKind)
  N:List Str
  own:List Str
  G:List (Str×GK)
  calm:Bool
  fnc:Bool
  thr:Bool
  GH:List (Str×GK)
  oc:List Str
  frz:Bool
noncomputable def loc(c:Cc)(x:Str):Option Nat:=
  if x == "__debug__" ||x == "__classdict__" then none else
  match c.nm.lookup x with
  |some .local|some .cell|some .free=>let i:=c.N.findIdx (· == x);if c.N[i]? = some x then some i else none
  |_=>none
noncomputable def zX(c:Cc)(x:Str):Option Nat:=
  match c.nm.lookup x with
  |some .local=>loc c x
  |some .cell=>if c.fnc||c.oc.contains x then loc c x else none
  |_=>none
noncomputable def glob(c:Cc)(x:Str):Option GK:=
  if x == "__debug__" ||x == "__name__" then none else
  match c.nm.lookup x with
  |some .globalImplicit=>c.G.lookup x
  |_=>none
noncomputable def esc:E→Bool
  | .own _=>false
  |_=>true
noncomputable def qcK:Es→Bool
  | .nil=>true
  | .cons e es=>esc e&&qcK es
noncomputable def isL:E→Bool
  | .lst _=>true
  | .rlst _=>true
  | .comp .. => true
  |_=>false
noncomputable def qtp:O2→Bool
  | .add=>true
  | .mul=>true
  |_=>false
noncomputable def fresh(c:Cc):E→Bool
  | .op o a b=>qtp o&&isL a||o==.add&&isL b
  | .lst _=>true
  | .rlst _=>true
  | .comp .. => true
  | .bi .list _=>true
  | .bi .sorted _=>true
  | .call f _=>c.G.lookup f==some (.fn true)
  |_=>false
noncomputable def o2:Operator→Option O2
  | .Add=>some .add
  | .Sub=>some .sub
  | .Mult=>some .mul
  | .FloorDiv=>some .fdiv
  | .Mod=>some .mod
  | .Pow=>some .pow
  | .LShift=>some .shl
  | .RShift=>some .shr
  | .BitAnd=>some .band
  | .BitOr=>some .bor
  | .BitXor=>some .bxor
  |_=>none
noncomputable def c2:CmpOp→C2
  | .Eq=>.eq
  | .NotEq=>.ne
  | .Lt=>.lt
  | .LtE=>.le
  | .Gt=>.gt
  | .GtE=>.ge
  | .Is=>.is
  | .IsNot=>.isnot
  | .In=>.isin
  | .NotIn=>.notin
noncomputable def qbu:Expr→Bool
  | .ListComp .. => true
  | .SetComp .. => true
  | .DictComp .. => true
  |_=>false
noncomputable def zd:Expr→Bool
  | .Set .. => false
  |_=>true
noncomputable def qff(names nm:List (Str×NameKind)):List (Str×NameKind):=names.map fun(n,k)=>if k==NameKind.free&&(nm.lookup n==some .cell)then (n,NameKind.cell)else (n,k)
noncomputable def zt(names:List (Str×NameKind)):List Str:=(names.filter fun p=>p.2==.local||p.2==.free||p.2==.cell).map (·.1)
noncomputable def qbl(c:Cc)(names:List (Str×NameKind)):List (Option Nat):=(zt names).map fun x=>if names.lookup x==some .free then loc c x else none
noncomputable def qca:List Expr→Option (List Str)
  | []=>some []
  | .Name x _::r=>(qca r).map (x :: ·)
  |_=>none
noncomputable def cTg(c:Cc):Expr→Option Tg
  | .Name x _=>if c.own.contains x then none else (zX c x).map .nm
  | .Tuple es _ _=>if c.calm then do
      let xs ←qca es
      if xs.any c.own.contains then none else
      let is ←xs.mapM (zX c)
      if is.Nodup then some (.tp is)else none
    else none
  |_=>none
noncomputable def isStar:Expr→Bool
  | .Starred .. => true
  |_=>false
noncomputable def isSlice:Expr→Bool
  | .Slice .. => true
  |_=>false
noncomputable def isTup:Expr→Bool
  | .Tuple .. => true
  |_=>false
noncomputable def qcO(it:It)(tg:Expr):Bool:=match it with
  | .enum _=>isTup tg
  | .zip .. => isTup tg
  |_=>true
noncomputable def qjs(c:Cc):Expr→Option Cl
  | .Name x _=>match glob c x with
    |some (.ty n _)=>some (.ty n)
    |some .exc=>some (.ex x)
    |some .exk=>some (.ex x)
    |_=>none
  |_=>none
noncomputable def vr(c:Cc)(x:Str)(i:Nat):E:=if c.own.contains x then .own i else .var i
noncomputable def baseOk:Expr→Bool
  | .Call (.Name _ _) (_::_) _ _=>true
  | .Name .. => true
  |_=>false
noncomputable def owned:It→Bool
  | .seq (.own _)=>true
  | .enum (.own _)=>true
  | .zip (.own _) _=>true
  | .zip _ (.own _)=>true
  |_=>false
noncomputable def qhk:Expr→Option Str
  | .Constant k _ _=>match k with
    | .str t=>some t
    |_=>none
  |_=>none
noncomputable def qjA:Expr→Option Expr
  | .FormattedValue a k f _=>match f with
    |none=>if k = -1 then some a else none
    |_=>none
  |_=>none
noncomputable def qmK:List Expr→Option (Str×Expr×Str×Expr×Str)
  | [x0,x1,x2,x3,x4]=>do
    let t0 ←qhk x0
    let a ←qjA x1
    let t1 ←qhk x2
    let b ←qjA x3
    let t2 ←qhk x4
    if (Str.empty++t0).length≤1000 then some (t0,a,t1,b,t2)else none
  |_=>none
noncomputable def qka:Expr→Bool
  | .UnaryOp .USub (.Constant (.int i) _ _) _=>decide (i=1)
  |_=>false
noncomputable def qmv(c:Cc)(b:B1):List Expr→Option Expr
  | [.Call (.Name g _) [a] [] _]=>if (b==.sorted)&&loc c g==none&&glob c g==some .set && !isStar a&&c.calm then some a else none
  |_=>none
noncomputable def qfH:Expr→Bool
  | .ListComp _ gs _ _=>gs.length==2
  |_=>false
mutual
noncomputable def cE:Nat→Cc→Expr→Option E
  | 0,_,_=>none
  |n+1,c,e=>match e with
    | .Name x _=>match loc c x with
      |some i=>if c.own.contains x then some (.own i)else some (.var i)
      |none=>match glob c x with
        |some .val=>some (.glb x)
        |some (.fn _)=>some (.fnv x)
        |_=>none
    | .Constant k _ _=>match k with
      | .int i=>some (.con (.int i))
      | .bool i=>some (.con (.bl i))
      | .none=>some (.con .non)
      | .str x=>some (.con (.str x))
      |_=>none
    | .BinOp a op b _=>do
      let o ←o2 op
      let a ←cE n c a
      let b ←cE n c b
      some (.op o a b)
    | .UnaryOp op a _=>do
      let a ←cE n c a
      match op with
      | .USub=>some (.neg a)
      | .Invert=>some (.inv a)
      | .Not=>some (.not a)
      |_=>none
    | .BoolOp op vs _=>cBo n c op vs
    | .Compare a ops bs _=>match ops,bs with
      | [o],[b]=>do
        let a ←cE n c a
        let b' ←cE n c b
        if zd b then some (.cmp (c2 o) a b')else none
      | [o,o'],[b,d]=>do
        let a ←cE n c a
        let b' ←cE n c b
        let d' ←cE n c d
        if zd b&&zd d then some (.cmp2 (c2 o) (c2 o') a b' d')else none
      | [o,o',o''],[b,d,f]=>do
        let a ←cE n c a
        let b' ←cE n c b
        let d' ←cE n c d
        let f' ←cE n c f
        if zd b&&zd d&&zd f then some (.cmp3 (c2 o) (c2 o') (c2 o'') a b' d' f')else none
      |_,_=>none
    | .Dict ks vs _=>if ks.isEmpty&&vs.isEmpty then some .dic else none
    | .JoinedStr vs _=>match qmK vs with
      |some (t0,a,t1,b,t2)=>do
        let a ←cE n c a
        let b ←cE n c b
        some (.fst2 t0 a t1 b t2)
      |none=>none
    | .IfExp t a b _=>do
      let t ←cT n c t
      let a ←cE n c a
      let b ←cE n c b
      if esc a&&esc b then some (.ite t a b)else none
    | .Tuple es _ _=>do
      let es ←cEs n c es
      if qcK es then some (.tup es)else none
    | .List es _=>do
      let es ←cEs n c es
      if qcK es then some (.lst es)else none
    | .Subscript a b _=>match b with
      | .Slice lo hi st _=>match st with
        |some s=>if lo.isNone&&hi.isNone&&qka s then (cE n c a).map .rev else none
        |none=>do
          let a ←cE n c a
          let lo ←cO n c lo
          let hi ←cO n c hi
          some (.sl a lo hi)
      |b=>do
        if isSlice b then none else
        let a ←cE n c a
        let b ←cE n c b
        some (.ix a b)
    | .ListComp elt gs sc _=>match gs with
     | [⟨tgt,it,ifs,asy⟩]=>do
      if !(asy==0) || !c.calm || !zd it then none else
      let c':Cc:={c with nm:=qff sc.names c.nm,N:=zt sc.names,fnc:=false,oc:=qfV sc.names}
      let cap:=qbl c sc.names
      if !qbc (fun x=>c.nm.lookup x) c.N (zt sc.names) cap sc || !decide (zt sc.names).Nodup then none else
      let it ←cI n c it
      let tg ←cTg c' tgt
      let t ←qcM n c' ifs
      let elt ←cE n c' elt
      if esc elt&&qcO it tgt then some (.comp it cap tg t elt)else none
     | [⟨tgt,it,ifs,asy⟩,⟨tgt2,it2,ifs2,asy2⟩]=>do
      if !(asy==0) || !(asy2==0) || !ifs.isEmpty || !c.calm || !zd it || !zd it2 then none else
      let c':Cc:={c with nm:=qff sc.names c.nm,N:=zt sc.names,fnc:=false,oc:=qfV sc.names}
      let cap:=qbl c sc.names
      if !qbc (fun x=>c.nm.lookup x) c.N (zt sc.names) cap sc || !decide (zt sc.names).Nodup then none else
      let it ←cI n c it
      let tg ←cTg c' tgt
      let i2 ←cI n c' it2
      let tg2 ←cTg c' tgt2
      let t ←qcM n c' ifs2
      let elt ←cE n c' elt
      if esc elt&&qcO it tgt&&qcO i2 tgt2 && !owned i2 then some (.comp2 it cap tg i2 tg2 t elt)else none
     |_=>none
    | .Call fe as ks cp=>match ks with
     | []=>match fe with
      | .Name f _=>match loc c f with
        |some _=>none
        |none=>match glob c f with
          |some (.fn _)=>do
            let es ←cEs n c as
            if qcK es && !as.isEmpty then some (.call f es)else if !as.isEmpty then some (.callo f es)else none
          |some (.bi b)=>match qmv c b as with
            |some a=>(cE n c a).map (.sset (b==.len))
            |none=>do
              let es ←cEs n c as
              if !as.isEmpty&&(c.calm||b==.len||b==.abs)then some (.bi b es)else none
          |some (.ty t (some b))=>match as with
            | [.Call (.Name g p) as' [] q]=>if loc c g==none&&glob c g==some .rng then (if c.calm&&(t == "tuple" ||t == "list")then (match as' with
                | [a]=>if isStar a then none else do
                  let a ←cE n c a
                  some (if t = "tuple" then .rtup (.rng a)else .rlst (.rng a))
                | [a,d]=>if isStar a||isStar d then none else do
                  let a ←cE n c a
                  let d ←cE n c d
                  some (if t = "tuple" then .rtup (.rng2 a d)else .rlst (.rng2 a d))
                | [a,d,k]=>if isStar a||isStar d||isStar k then none else do
                  let a ←cE n c a
                  let d ←cE n c d
                  let k ←cE n c k
                  if t == "tuple" then some (.rtup (.rng3 a d k))else none
                |_=>none)
                else none)
              else do
                let es ←cEs n c as
                some (.bi b es)
            |_=>do
              let es ←cEs n c as
              if !as.isEmpty then some (.bi b es)else none
          |some .isi=>match as with
            | [a,k]=>do
              if isStar a then none else
              let a ←cE n c a
              let k ←qjs c k
              some (.isi a k)
            |_=>none
          |_=>none
      |_=>none
     |_=>none
    |_=>none
noncomputable def qcM:Nat→Cc→List Expr→Option T
  | 0,_,_=>none
  |n+1,c,ifs=>match ifs with
    | []=>some .yes
    | [t]=>cT n c t
    |_=>none
noncomputable def cBo:Nat→Cc→BoolOp→List Expr→Option E
  | 0,_,_,_=>none
  |n+1,c,op,vs=>match vs with
    | []=>none
    | [a]=>do
      let a ←cE n c a
      if esc a then some a else none
    |a::b::r=>do
      let a ←cE n c a
      let r ←cBo n c op (b::r)
      match op with
      | .And=>some (.and a r)
      | .Or=>some (.or a r)
noncomputable def cO:Nat→Cc→Option Expr→Option OE
  | 0,_,_=>none
  |n+1,c,o=>match o with
    |none=>some .none
    |some e=>(cE n c e).map .some
noncomputable def cEs:Nat→Cc→List Expr→Option Es
  | 0,_,_=>none
  |n+1,c,es=>match es with
    | []=>some .nil
    |e::r=>do
      if isStar e then none else
      let e ←cE n c e
      let r ←cEs n c r
      some (.cons e r)
noncomputable def cI:Nat→Cc→Expr→Option It
  | 0,_,_=>none
  |n+1,c,e=>match e with
    | .Call (.Name f p) as [] q=>match loc c f with
      |some _=>(cE n c (.Call (.Name f p) as [] q)).map .seq
      |none=>match glob c f with
        |some .rng=>(match as with
          | [a]=>if isStar a then none else (cE n c a).map .rng
          | [a,b]=>if isStar a||isStar b then none else do
            let a ←cE n c a
            let b ←cE n c b
            some (.rng2 a b)
          | [a,b,d]=>if isStar a||isStar b||isStar d then none else do
            let a ←cE n c a
            let b ←cE n c b
            let d ←cE n c d
            some (.rng3 a b d)
          |_=>none)
        |some .enum=>(match as with
          | [a]=>if isStar a then none else (cE n c a).map .enum
          |_=>none)
        |some .zip=>(match as with
          | [a,b]=>if isStar a||isStar b then none else do
            let a ←cE n c a
            let b ←cE n c b
            some (.zip a b)
          |_=>none)
        |_=>(cE n c (.Call (.Name f p) as [] q)).map .seq
    |e=>(cE n c e).map .seq
noncomputable def cT:Nat→Cc→Expr→Option T
  | 0,_,_=>none
  |n+1,c,e=>match e with
    | .UnaryOp .Not a _=>(cT n c a).map .not
    | .BoolOp op vs _=>cTs n c op vs
    | .IfExp .. => none
    | .Compare a ops bs _=>match ops,bs with
      | [o],[b]=>do
        let a ←cE n c a
        let b' ←cE n c b
        if zd b then some (.cmp (c2 o) a b')else none
      | [o,o'],[b,d]=>do
        let a ←cE n c a
        let b' ←cE n c b
        let d' ←cE n c d
        if zd b&&zd d then some (.cmp2 (c2 o) (c2 o') a b' d')else none
      | [o,o',o''],[b,d,f]=>do
        let a ←cE n c a
        let b' ←cE n c b
        let d' ←cE n c d
        let f' ←cE n c f
        if zd b&&zd d&&zd f then some (.val (.cmp3 (c2 o) (c2 o') (c2 o'') a b' d' f'))else none
      |_,_=>none
    |e=>(cE n c e).map .val
noncomputable def cTs:Nat→Cc→BoolOp→List Expr→Option T
  | 0,_,_,_=>none
  |n+1,c,op,vs=>match vs with
    | []=>none
    | [a]=>cT n c a
    |a::b::r=>do
      let a ←cT n c a
      let r ←cTs n c op (b::r)
      match op with
      | .And=>some (.and a r)
      | .Or=>some (.or a r)
end

noncomputable def qjS:Expr→Option (Str×Str×Pos×Expr×Pos)
  | .Call f as ks cp=>match f with
    | .Attribute o m ap=>match o with
      | .Name x _=>match as with
        | [a]=>if ks.isEmpty then some (x,m,ap,a,cp)else none
        |_=>none
      |_=>none
    |_=>none
  |_=>none
noncomputable def qop(_:Expr):Option (Str×Pos×Expr×Expr×Pos):=none
noncomputable def qjr:Expr→Bool
  | .Tuple es _ _=>es.all (foldedForSure 8)
  |_=>false
noncomputable def qrT(ts:List Expr)(e:Expr):Option (Str×Str×Expr×Expr):=none
noncomputable def qjO(ts:List Expr)(e:Expr):Option (Str×Str×Str×Expr×Expr×Expr):=match ts with
  | [.Name x px,.Name y py,.Name z pz]=>match e with
    | .Tuple [a,b,d] _ _=>if !isStar a && !isStar b && !isStar d && !([a,b,d].all (foldedForSure 8)) && !([a,b,d].all (constantsAlone 8))&&(px.line==py.line)&&(px.line==pz.line)then some (x,y,z,a,b,d)else none
    |_=>none
  |_=>none
mutual
noncomputable def cS:Nat→Cc→Bool→Stmt→Option S
  | 0,_,_,_=>none
  |n+1,c,fr,s=>match s with
    | .Assign ts e _=>match ts with
      | [t]=>match t with
        | .Name x _=>do
          if qfH e then none else
          let i ←zX c x
          let e' ←cE n c e
          if c.own.contains x then (if fresh c e' && !c.frz then some (.set (.nm i) e')else none)else if esc e' then some (.set (.nm i) e')else none
        | .Tuple ts k p=>match qrT ts e with
          |some (x,y,a,b)=>if !(c.nm.lookup x==some .local)then (do
              let tg ←cTg c (.Tuple ts k p)
              let e' ←cE n c e
              if !esc e' then none else some (.set tg e'))else do
            let i ←zX c x
            let j ←zX c y
            let a' ←cE n c a
            let b' ←cE n c b
            if !c.calm || !(c.nm.lookup x==some .local) || !(c.nm.lookup y==some .local)||(i==j)||c.own.contains x || !esc a'||isStar a||isStar b then none else
            if c.own.contains y then (if fresh c b' && !c.frz then some (.par i j a' b')else none)else if esc b' then some (.par i j a' b')else none
          |none=>match qjO ts e with
            |some (x,y,z,a,b,d)=>do
              let i ←zX c x
              let j ←zX c y
              let l ←zX c z
              let a' ←cE n c a
              let b' ←cE n c b
              let d' ←cE n c d
              if !c.calm || !(c.nm.lookup x==some .local) || !(c.nm.lookup y==some .local) || !(c.nm.lookup z==some .local)||(i==j)||(i==l)||(j==l)||c.own.contains x||c.own.contains y||c.own.contains z || !esc a' || !esc b' || !esc d' then none else some (.par3 i j l a' b' d')
            |none=>do
              let tg ←cTg c (.Tuple ts k p)
              let e' ←cE n c e
              if (isTup e && !qjr e)||qbu e || !esc e' then none else some (.set tg e')
        | .Subscript a k _=>match a with
          | .Name x _=>do
            let i ←zX c x
            let e' ←cE n c e
            let k' ←cE n c k
            if c.own.contains x&&esc e' && !isSlice k && !qbu e && !c.frz then some (.seti i k' e')else none
          |_=>none
        |_=>none
      |_=>none
    | .Expr e _=>match qop e with
      |some (x,ap,k,a,cp)=>do
        let i ←zX c x
        let k' ←cE n c k
        let a' ←cE n c a
        if c.own.contains x&&esc a' && !isStar k && !isStar a&&ap.endLine==cp.line && !c.frz then some (.ins i k' a')else none
      |none=>match qjS e with
      |some (x,m,ap,a,cp)=>do
        let i ←zX c x
        let a' ←cE n c a
        if m == "append" && c.own.contains x&&esc a' && !isStar a&&ap.endLine==cp.line && !c.frz then some (.app i a')else none
      |none=>do
        if qbu e then none else
        let e' ←cE n c e
        some (.exp e')
    | .Return o _=>match o with
      |some e=>do
        let e' ←cE n c e
        if fr then (match e with
          | .Name y _=>if c.own.contains y then (loc c y).map (fun i=>.ret (.own i))else none
          |_=>if fresh c e' then some (.ret e')else none)
        else some (.ret e')
      |none=>if fr then none else some .retN
    | .If t a b _=>do
      let t ←cT n c t
      let a ←cSs n c fr a
      let b ←cSs n c fr b
      some (.ite t a b)
    | .For tg it b els _=>do
      if !els.isEmpty || !c.calm || !zd it then none else
      let tg' ←cTg c tg
      let it ←cI n c it
      if !qcO it tg then none else
      let b ←cSs n {c with frz:=c.frz||owned it} fr b
      some (.for tg' it b)
    | .While t b els _=>do
      if !els.isEmpty || !c.calm then none else
      let t ←cT n c t
      let b ←cSs n c fr b
      some (.while t b)
    | .Pass _=>some .pass
    | .Break _=>some .brk
    | .Continue _=>some .cnt
    |_=>none
noncomputable def cSs:Nat→Cc→Bool→List Stmt→Option Ss
  | 0,_,_,_=>none
  |n+1,c,fr,ss=>match ss with
    | []=>some .nil
    |s::r=>do
      let r ←cSs n c fr r
      some (.cons ((cS n c fr s).getD .unk) r)
end
noncomputable def qsy(c:Cc):Stmt→Bool
  | .For _ (.Name x _) _ _ _=>c.own.contains x
  |_=>false
noncomputable def qoF(n:Nat)(c:Cc):Stmt→Bool
  | .For _ _ (.Assign [.Name x _] e _::_) _ _=>c.own.contains x&&(match cE n c e with
    |some e'=>!fresh c e'
    |none=>false)
  |_=>false
noncomputable def noOwn(c:Cc):Cc:={c with own:=[],frz:=false}
noncomputable def qfQ(n:Nat)(c:Cc)(fr:Bool):List Stmt→Option Ss
  | []=>some .nil
  |s::r=>if qsy c s||qoF n c s then cSs n (noOwn c) fr (s::r)else do
    let r' ←qfQ n c fr r
    some (.cons ((cS n c fr s).getD .unk) r')
noncomputable def argNames(a:Arguments):List Str:=a.args.map (·.arg)
noncomputable def qcX(a:Arguments)(sc:Scope):List Str:=argNames a++((sc.names.filter fun p=>p.2==.local||p.2==.cell).map (·.1)).filter fun x=>!(argNames a).contains x
noncomputable def qha(N ps:List Str)(sc:Scope):Bool:=
  sc.kind==.function && !sc.isCoroutine && !sc.isGenerator&&decide N.Nodup&&decide (N.take ps.length=ps)&&ps.all (fun x=>sc.names.lookup x==some .local||sc.names.lookup x==some .cell)&&sc.names.all fun y=>y.2 != .free
noncomputable def qhO:Nat:=60
noncomputable def cFn(G GH:List (Str×GK))(own:List Str)(fr:Bool)(st:Stmt):Option Fn:=do
  let a:=zm st
  let sc:=zk st
  let N:=qcX a sc
  if !qha N (argNames a) sc||(argNames a).any own.contains then none else
  let b ←qfQ qhO ⟨sc.names,N,own,G,true,true,false,GH,[],false⟩ fr (qao st)
  some ⟨(argNames a).length,N.length,fr,b⟩
noncomputable def qrm(GU:List (Str×GK))(own:List Str)(fr:Bool)(st:Stmt):Option Fn:=none
end EV

namespace EV
open PySem PySem.Spec PyProof.Rows L2
structure Gc where
 K:PySem.W.Frag
 fnA:Str→Option Addr
 clA:Str→Option Addr
mutual
inductive Rep(g:Gc)(H:Hp):D→V→Prop
 |non:Rep g H .non .non
 |bl (b:Bool):Rep g H (.bl b) (.bl b)
 |int (i:Int):Rep g H (.int i) (.int i)
 |str (x:Str):Rep g H (.str x) (.str x)
 |tup {a:Addr}{xs:List V}{ds:List D}:SqT g.K H a xs→qh g H ds xs→Rep g H (.tup ds) (.ref a)
 |lst {a:Addr}{xs:List V}{ds:List D}:SqL g.K H a xs→qh g H ds xs→Rep g H (.lst ds) (.ref a)
 |fn {x:Str}{a:Addr}:g.fnA x=some a→Rep g H (.fn x) (.ref a)
 |exn {c:Str}{a C:Addr}:g.clA c=some C→H a=some (qmu a (.ref C))→Rep g H (.exn c) (.ref a)
 |dic {a:Addr}:H a=some (.dK [])→Rep g H .dic (.ref a)
inductive qh(g:Gc)(H:Hp):List D→List V→Prop
 |nil:qh g H [] []
 |cons {d:D}{ds:List D}{x:V}{xs:List V}:Rep g H d x→qh g H ds xs→qh g H (d::ds) (x::xs)
end
theorem zO{K:PySem.W.Frag}{H H':Hp}{a:Addr}{xs:List V}(e:qf H H')(h:SqT K H a xs):SqT K H' a xs:=by
 rcases h with (h|⟨o,h⟩)|h
 ·exact .inl (.inl (e _ _ h))
 ·exact .inl (.inr ⟨o,e _ _ h⟩)
 ·exact .inr h
section
variable{g:Gc}{H H':Hp}
theorem qkF{a b:Bool}(h:(a&&b)=true):a=true∧b=true:=by rw [Bool.and_eq_true]at h;exact h
theorem Rep.mono(e:qf H H'){d:D}{v:V}(h:Rep g H d v):Rep g H' d v:=
 h.rec (motive_1:=fun d v _=>Rep g H' d v) (motive_2:=fun d v _=>qh g H' d v) .non .bl .int .str (fun q _ r=>.tup (zO e q) r) (fun q _ r=>.lst (e.seq q) r) .fn (fun q r=>.exn q (e _ _ r)) (fun q=>.dic (e _ _ q)) .nil (fun _ _ a b=>.cons a b)
theorem qh.mono(e:qf H H'){d:List D}{v:List V}(h:qh g H d v):qh g H' d v:=
 h.rec (motive_1:=fun d v _=>Rep g H' d v) (motive_2:=fun d v _=>qh g H' d v) .non .bl .int .str (fun q _ r=>.tup (zO e q) r) (fun q _ r=>.lst (e.seq q) r) .fn (fun q r=>.exn q (e _ _ r)) (fun q=>.dic (e _ _ q)) .nil (fun _ _ a b=>.cons a b)
theorem qh.length{ds:List D}:∀{vs:List V},qh g H ds vs→ds.length=vs.length:=by
 induction ds with
 |nil=>intro vs h;cases h;rfl
 |cons d ds ih=>intro vs h;cases h with|cons _ r=>exact congrArg (· + 1) (ih r)
theorem qh.get{ds:List D}:∀{vs:List V}{i:Nat}{d:D},qh g H ds vs→ds[i]? = some d→∃v,vs[i]? = some v∧Rep g H d v:=by
 induction ds with
 |nil=>intro vs i d h e;cases e
 |cons d ds ih=>
  intro vs i d' h e;cases h with
  |cons h t=>cases i with
   |zero=>cases e;exact⟨_,rfl,h⟩
   |succ i=>exact ih (i:=i) t e
theorem qh.append{ds:List D}:∀{es:List D}{vs us:List V},qh g H ds vs→qh g H es us→qh g H (ds++es) (vs++us):=by
 induction ds with
 |nil=>intro es vs us h s;cases h;exact s
 |cons d ds ih=>intro es vs us h s;cases h with|cons r t=>exact .cons r (ih t s)
theorem qh.take{ds:List D}:∀{vs:List V} (n:Nat),qh g H ds vs→qh g H (ds.take n) (vs.take n):=by
 induction ds with
 |nil=>intro vs n h;cases h;cases n<;>exact .nil
 |cons d ds ih=>intro vs n h;cases h with|cons r t=>cases n with
  |zero=>exact .nil
  |succ n=>exact .cons r (ih n t)
theorem qh.drop{ds:List D}:∀{vs:List V} (n:Nat),qh g H ds vs→qh g H (ds.drop n) (vs.drop n):=by
 induction ds with
 |nil=>intro vs n h;cases h;cases n<;>exact .nil
 |cons d ds ih=>intro vs n h;cases n with
  |zero=>exact h
  |succ n=>cases h with|cons r t=>exact ih n t
theorem qh.set{d:D}{v:V}(r:Rep g H d v){ds:List D}:∀{vs:List V} (i:Nat),qh g H ds vs→qh g H (ds.set i d) (vs.set i v):=by
 induction ds with
 |nil=>intro vs i h;cases h;exact .nil
 |cons d' ds ih=>intro vs i h;cases h with|cons q t=>cases i with
  |zero=>exact .cons r t
  |succ i=>exact .cons q (ih i t)
theorem qh.ints{ds:List D}:∀{vs:List V}{ns:List Int},qh g H ds vs→ints? ds=some ns→vs=ns.map V.int∧ds=ns.map D.int:=by
 induction ds with
 |nil=>intro vs ns h e;cases h;cases e;exact⟨rfl,rfl⟩
 |cons d ds ih=>
  intro vs ns h e;cases h with
  |cons h t=>cases d with
   |int i=>
    obtain⟨ms,e1,rfl⟩:=Option.map_eq_some_iff.mp (show (ints? ds).map (i :: ·)=some ns from e);obtain⟨h1,h2⟩:=ih t e1;cases h;exact⟨by rw [h1];rfl,by rw [h2];rfl⟩
   |_=>cases (show none=some ns from e)
theorem qh.bools{ds:List D}:∀{vs:List V}{ns:List Bool},qh g H ds vs→bools? ds=some ns→vs=ns.map V.bl:=by
 induction ds with
 |nil=>intro vs ns h e;cases h;cases e;rfl
 |cons d ds ih=>
  intro vs ns h e;cases h with
  |cons h t=>cases d with
   |bl i=>
    obtain⟨ms,e1,rfl⟩:=Option.map_eq_some_iff.mp (show (bools? ds).map (i :: ·)=some ns from e);have h1:=ih t e1;cases h;rw [h1];rfl
   |_=>cases (show none=some ns from e)
theorem qh.ofInts:∀(ns:List Int),qh g H (ns.map D.int) (ns.map V.int)
 | []=>.nil
 |i::r=>.cons (.int i) (qh.ofInts r)
end
structure Sh where
 o:Addr→Bool
 h:Addr→Bool
 z:L2.St
 y:Hp
noncomputable def hid(H:Hp)(S:Sh):Hp:=fun b=>if S.h b=true then none else H b
noncomputable def zH(S:Sh)(a:Addr):Sh:=⟨S.o,fun b=>S.h b||b==a,S.z,S.y⟩
theorem quf{H:Hp}{S:Sh}{b:Addr}{o:HO}:hid H S b=some o↔S.h b=false∧H b=some o:=by
 unfold hid;cases h:S.h b<;>simp
theorem qab{H:Hp}{S:Sh}:qf (hid H S) H:=fun _ _ h=>(quf.mp h).2
theorem qk{H H':Hp}{S:Sh}(e:qf H H'):qf (hid H S) (hid H' S):=fun b o h=>quf.mpr ⟨(quf.mp h).1,e _ _ (quf.mp h).2⟩
noncomputable def Sub(S:Sh)(H:Hp):Prop:=∀a,(S.h a=true∨S.o a=true)→H a≠none
theorem Sub.same{S:Sh}{H H':Hp}(h:Sub S H)(e:qf H H'):Sub S H':=fun a s n=>by
 cases q:H a with
 |none=>exact h a s q
 |some o=>rw [e _ _ q]at n;cases n
theorem Sub.free{S:Sh}{H:Hp}(h:Sub S H){p:Addr}(n:H p=none):S.h p=false:=by
 cases q:S.h p with
 |false=>rfl
 |true=>exact absurd n (h p (.inl q))
theorem Sub.freeO{S:Sh}{H:Hp}(h:Sub S H){p:Addr}(n:H p=none):S.o p=false:=by
 cases q:S.o p with
 |false=>rfl
 |true=>exact absurd n (h p (.inr q))
theorem qu{H:Hp}{p:Addr}{o:HO}(n:H p=none):qf H (upd H p o):=fun b u h=>by
 rw [qt (fun z=>by rw [z,n]at h;cases h)];exact h
theorem qfI{H:Hp}{S:Sh}{p:Addr}{o:HO}(hs:Sub S H)(n:H p=none):hid (upd H p o) S p=some o:=quf.mpr ⟨hs.free n,zq⟩
theorem qdp{H:Hp}{S:Sh}{p:Addr}{o:HO}(n:H p=none):qf (hid H S) (hid (upd H p o) (zH S p)):=fun b u h=>by
 obtain⟨h1,h2⟩:=quf.mp h;have hb:b≠p:=fun z=>by rw [z,n]at h2;cases h2
 refine quf.mpr ⟨?_,by rw [qt hb];exact h2⟩;show (S.h b||b==p)=false;rw [h1]
 simpa using hb
theorem qdX{H:Hp}{S:Sh}{p:Addr}:qf (hid H (zH S p)) (hid H S):=fun b u h=>by
 obtain⟨h1,h2⟩:=quf.mp h;refine quf.mpr ⟨?_,h2⟩;have h1:(S.h b||b==p)=false:=h1;simp at h1;exact h1.1
noncomputable def zE(g:Gc)(H:Hp)(S:Sh)(d:D)(v:V):Prop:=
 Rep g (hid H S) d v∨∃a vs ds,S.o a=true∧v=.ref a∧d=.lst ds∧H a=some (.lst vs)∧qh g (hid H S) ds vs
noncomputable def Fr(g:Gc)(H0:Hp)(S:Sh)(H:Hp)(d:D)(v:V):Prop:=
 ∃a vs ds,v=.ref a∧d=.lst ds∧H0 a=none∧H a=some (.lst vs)∧qh g (hid H (zH S a)) ds vs
section
variable{g:Gc}{H H' H0:Hp}{S:Sh}{d:D}{v:V}
theorem zE.mono(e:qf H H')(h:zE g H S d v):zE g H' S d v:=by
 rcases h with h|⟨a,vs,ds,h1,h2,h3,h4,h5⟩
 ·exact .inl (h.mono (qk e))
 ·exact .inr ⟨a,vs,ds,h1,h2,h3,e _ _ h4,h5.mono (qk e)⟩
theorem zE.rep(h:zE g H S d v):Rep g H d v:=by
 rcases h with h|⟨a,vs,ds,h1,rfl,rfl,h4,h5⟩
 ·exact h.mono qab
 ·exact .lst (SqL.of h4) (h5.mono qab)
theorem zE.lst{ds:List D}(h:zE g H S (.lst ds) v):∃a vs,v=.ref a∧SqL g.K H a vs∧qh g (hid H S) ds vs:=by
 rcases h with h|⟨a,vs,ds',h1,rfl,h3,h4,h5⟩
 ·cases h with
  |lst h r=>exact⟨_,_,rfl,qab.seq h,r⟩
 ·cases h3;exact⟨a,vs,rfl,SqL.of h4,h5⟩
theorem zE.strong(h:zE g H S d v)(n:∀ds,d≠.lst ds):Rep g (hid H S) d v:=by
 rcases h with h|⟨a,vs,ds',h1,rfl,h3,h4,h5⟩
 ·exact h
 ·exact absurd h3 (n _)
theorem zE.tup{ds:List D}(h:zE g H S (.tup ds) v):∃a vs,v=.ref a∧SqT g.K H a vs∧qh g (hid H S) ds vs:=by
 cases h.strong (by intro _ z;cases z)with
 |tup h2 r=>exact⟨_,_,rfl,zO qab h2,r⟩
theorem zE.seq{ds:List D}(h:zE g H S d v)(e:seq? d=some ds):∃a vs,v=.ref a∧(SqL g.K H a vs∨SqT g.K H a vs)∧qh g (hid H S) ds vs:=by
 cases d with
 |tup xs=>cases e;obtain⟨a,vs,h1,h2,h3⟩:=h.tup;exact⟨a,vs,h1,.inr h2,h3⟩
 |lst xs=>cases e;obtain⟨a,vs,h1,h2,h3⟩:=h.lst;exact⟨a,vs,h1,.inl h2,h3⟩
 |_=>cases e
theorem zE.int{i:Int}(h:zE g H S (.int i) v):v=.int i:=by cases h.strong (by intro _ z;cases z);rfl
theorem zE.bl{b:Bool}(h:zE g H S (.bl b) v):v=.bl b:=by cases h.strong (by intro _ z;cases z);rfl
theorem qaM{ds:List D}{vs:List V}{p:Addr}(hs:Sub S H)(n:H p=none)(r:qh g (hid H S) ds vs):Rep g (hid (upd H p (.tup vs)) S) (.tup ds) (.ref p):=
 .tup (SqT.of (qfI hs n)) (r.mono (qk (qu n)))
theorem qas{ds:List D}{vs:List V}{p:Addr}(hs:Sub S H)(n:H p=none)(r:qh g (hid H S) ds vs):Rep g (hid (upd H p (.lst vs)) S) (.lst ds) (.ref p):=
 .lst (SqL.of (qfI hs n)) (r.mono (qk (qu n)))
theorem qbr{ds:List D}{vs:List V}{p:Addr}(e:qf H0 H)(n:H p=none)(r:qh g (hid H S) ds vs):Fr g H0 S (upd H p (.lst vs)) (.lst ds) (.ref p):=
 ⟨p,vs,ds,rfl,rfl,e.free n,zq,r.mono (qdp n)⟩
end
end EV
namespace HT
open PySem PySem.Spec PyProof.Rows L2
section
variable{prog:Program}{w:World}{A:Around}{E:Value→Shared→Prop}{s:Shared}
theorem qil{l:Addr}{its:Array Value}{Q:List Value→Shared→Prop}(ht:IsTup s.heap l its)(hz:its.size≤sizeLine)
  (h:Q its.toList {s with heap:=(s.heap.push (seqObj "list" #[] 0)).update s.heap.objs.size (Obj.mapSeq (· ++ its))}) :
  wpAny (model prog w) A (collect (.ref l)) Q E s:=by
 obtain⟨o,ho,hc,n,hd⟩:=id ht;unfold collect;apply wpAny_bind;apply wpAny_runValue;apply codeAny_builtin entry_proto_collect';show wpAny _ _ (do again (.builtin "list.__iadd__" ⟨[←newList [],.ref l],[]⟩)) _ _ s;apply wpAny_bind;refine wpAny_newList (hsz:=Nat.zero_le _) ?_;refine wpAny_pure ⟨Code.quiet_builtin _ (by decide +kernel),?_⟩;apply codeAny_builtin entry_list_iadd';show wpAny _ _ (Builtin.List.listExtendWith (.ref s.heap.objs.size) (.ref l) (.ref s.heap.objs.size)) _ _ ({s with heap:=s.heap.push (seqObj "list" #[] 0)}:Shared);have hS:(s.heap.push (seqObj "list" #[] 0)).get? s.heap.objs.size=some (seqObj "list" #[] 0):=Heap.get?_push_size _ rfl;have hT:=Heap.get?_push_of_some (seqObj "list" #[] 0) ho;unfold Builtin.List.listExtendWith;apply wpAny_bind;refine wpAny_typeOf (T:="tuple") ⟨o,hT,hc⟩ ?_;rw [if_pos (by simp)];apply wpAny_bind;refine listItems_at hT hd ?_;apply wpAny_bind;refine listItems_at hS rfl ?_;rw [if_neg (by simp)];apply wpAny_bind;refine listUpdate_at hS rfl ?_ (Nat.zero_le _) (by show (#[]++its).size≤sizeLine+1;rw [Array.size_append];show 0+its.size≤_;lia);apply wpAny_pure;show wpAny (model prog w) A (load s.heap.objs.size>>=fun o=>match o.data with
  | .seq xs _=>pure xs.toList
  |_=>unsupported "internal:collect") Q E _
 apply wpAny_bind;refine wpAny_load (get?_update_seq hS _) ?_;show wpAny _ _ (pure ((#[]:Array Value)++its).toList) Q E _;rw [show ((#[]:Array Value)++its).toList=its.toList by simp];exact wpAny_pure h
theorem qjD{l:Addr}{vs:List Value}{ns:List Int}{Q:Value→Shared→Prop}(ht:IsTup s.heap l vs.toArray)(hI:IntsAre vs ns)(h64:vs.length<64)
  (h:∀(out:Array Value) (ns':List Int),IntsAre out.toList ns'→ns'.Perm ns→ns'.Pairwise (·≤·)→Q (.ref (s.heap.objs.size+1)) {s with heap:=sortedAll s.heap vs out}) :
  wpAny (model prog w) A (call (.builtin "sorted") [.ref l]) Q E s:=by
 refine Calls.call_function_entry kind_sorted plain_sorted entry_sorted (args_sorted1 _) ?_;unfold Builtin.«sorted»;apply wpAny_bind (m:=checkCount "sorted" 1 1 _);apply wpAny_pure;apply wpAny_bind;refine qil ht (by rw [List.size_toArray,sizeLine_eq];lia) ?_;apply wpAny_bind;refine wpAny_newList (hsz:=by rw [sizeLine_eq];show vs.length≤_;lia) ?_;have hz:((s.heap.push (seqObj "list" #[] 0)).update s.heap.objs.size (Obj.mapSeq (· ++ vs.toArray))).objs.size=s.heap.objs.size+1:=by rw [Heap.size_update,size_push']
 have hL:(((s.heap.push (seqObj "list" #[] 0)).update s.heap.objs.size (Obj.mapSeq (· ++ vs.toArray))).push (seqObj "list" vs.toArray 0)).get? (s.heap.objs.size+1)=some (seqObj "list" vs.toArray 0):=hz▸Heap.get?_push_size _ rfl;show wpAny _ _ _ _ _ ({s with heap:=((s.heap.push (seqObj "list" #[] 0)).update s.heap.objs.size (Obj.mapSeq (· ++ vs.toArray))).push (seqObj "list" vs.toArray 0)}:Shared);rw [hz];apply wpAny_bind;apply wpAny_holding;refine wpAny_call_entry slot_list_sort ⟨_,hL,rfl⟩ entry_list_sort (list_sort_tree hL hI h64 fun out ns' a1 a2 a3=>⟨_,rfl,?_⟩) (args_list_sort _);exact wpAny_pure ⟨_,rfl,h out ns' a1 a2 a3⟩
end
end HT
namespace L2
open PySem PySem.Spec PyProof.Rows
variable{X:Cx}
noncomputable def qpy(K:PySem.W.Frag):List V→Hp→VK→Prop:=fun vs H Q=>∃(l:Addr) (ns:List Int),vs=[.ref l]∧SqT K H l (ns.map V.int)∧ns.length<64∧∀(D:Addr) (ms:List Int),H D=none→ms.Perm ns→ms.Pairwise (·≤·)→Q (.ref D) (upd H D (.lst (ms.map V.int)))
theorem qik:qz X (.builtin "sorted") (qpy X.K):=by
 intro pins s σ H xs us Q I r ⟨l,ns,e,hl,h64,q⟩;subst e;obtain⟨u,rfl,ru⟩:=r.one;cases ru;obtain⟨its,rv,ht,hz⟩:=I.tuple hl;have hI:=intsAre_of rv;have hle:=IntsAre.length hI;refine HT.qjD ht hI (by rw [hle];exact h64) fun out ns' a1 a2 a3=>?_
 obtain⟨c,hc⟩:=sortedAll_at s.heap its out;have keep:∀b o,s.heap.get? b=some o→(sortedAll s.heap its out).get? b=some o:=fun b o e=>sortedAll_old e
 have hn:H (s.heap.objs.size+1)=none:=I.hok.fresh (Nat.le_succ _);have hl':ns'.length=ns.length:=a2.length_eq;exact⟨.ref (s.heap.objs.size+1),_,I.laid (t':=s.toks) (o:=.lst (ns'.map V.int)) keep (Nat.le_succ _) ⟨by rw [List.length_map,sizeLine_eq];lia,out.toList,c,qfs a1,by rw [Array.toArray_toList];exact hc⟩,rfl,q _ ns' hn a2 a3⟩
theorem qpM:fillsNumberSlot (.type "tuple") "mul" = pure false:=
 PySem.fillsNumberSlot_seq (id:="tuple.__mul__") (r:=some (.builtin "tuple.__rmul__")) PySem.F.slot_tuple_mul.lookup (by decide +kernel) PySem.F.slot_tuple_rmul.lookup (by decide +kernel)
theorem qrZ:seqRepeat? (.type "tuple")=pure (some (.builtin "tuple.__mul__")):=by
 unfold seqRepeat?;rw [PySem.seqSlot_of (T:="tuple") (name:="__mul__") (id:="tuple.__mul__") PySem.F.slot_tuple_mul.lookup (by decide +kernel),PySem.seqSlot_of (T:="tuple") (name:="__rmul__") (id:="tuple.__rmul__") PySem.F.slot_tuple_rmul.lookup (by decide +kernel)]
 rfl
theorem qpw(a:Int)(t:Tok)(l:Addr)(items:Array Value)(n:Nat)(d:Option Addr)(sl:Array (Option Value)) :
  Meets (Builtin.«int.__rmul__» ⟨[.int a t,.ref l],[]⟩) (fun _ R s=>s.heap.get? l=some ⟨.type "tuple",d,.seq items n,sl⟩∧R (.ok (.ret Value.notImplemented)) s):=
 .of_wp fun prog w A R s h=>by
  obtain⟨hp,g,d,tk,os⟩:=s;obtain⟨hl,h⟩:=h
  wp_walk
  exact⟨_,rfl,h⟩
theorem qgX{M:Model}{A:Around}{α:Type}{b:Bool}{x y:Sem α}{Q:α→Shared→Prop}{E:Value→Shared→Prop}{s:Shared}(h:b=false)(k:wpAny M A y Q E s):wpAny M A (if b=true then x else y) Q E s:=by subst h;exact k
theorem qsH{M:Model}{A:Around}{α:Type}{b:Bool}{x y:Sem α}{Q:α→Shared→Prop}{E:Value→Shared→Prop}{s:Shared}(h:b=true)(k:wpAny M A x Q E s):wpAny M A (if b=true then x else y) Q E s:=by subst h;exact k
theorem qoA(l:Addr)(items:Array Value)(n:Nat)(d:Option Addr)(sl:Array (Option Value))(x:Int)(u:Tok)(h0:0≤x)(h1:x<2^63)(h2:(items.isEmpty||x==1)=true) :
  Meets (Builtin.«tuple.__mul__» ⟨[.ref l,.int x u],[]⟩) (fun _ R s=>s.heap.get? l=some ⟨.type "tuple",d,.seq items n,sl⟩∧R (.ok (.ret (.ref l))) s):=
 .of_wp fun prog w A R s h=>by
  obtain⟨hp,g,d,tk,os⟩:=s;obtain⟨hl,h⟩:=h
  wp_walk
  refine qgX (by simp;lia) ?_
  wp_walk
  exact⟨_,rfl,h⟩
theorem qse(l:Addr)(items:Array Value)(n:Nat)(d:Option Addr)(sl:Array (Option Value))(x:Int)(u:Tok)(h0:0≤x)(h1:x≤1000000)(hz:items.size * x.toNat≤16777216)(h2:(items.isEmpty||x==1)=false) :
  Meets (Builtin.«tuple.__mul__» ⟨[.ref l,.int x u],[]⟩) (fun _ R s=>s.heap.get? l=some ⟨.type "tuple",d,.seq items n,sl⟩∧R (.ok (.ret (.ref s.heap.objs.size))) {s with heap:=s.heap.push ⟨.type "tuple",none,.seq (List.foldl (fun a b=>a++b) #[] (List.replicate x.toNat items)) 0,#[]⟩}):=
 .of_wp fun prog w A R s h=>by
  obtain⟨hp,g,d,tk,os⟩:=s;obtain⟨hl,h⟩:=h;have hz':(items.size:Int) * x≤16777216:=by
   have:((items.size * x.toNat:Nat):Int)≤16777216:=by lia
   rwa [Int.natCast_mul,Int.toNat_of_nonneg h0]at this
  wp_walk
  refine qgX (by simp;lia) ?_
  wp_walk
  have he:items.isEmpty=false:=by
   cases q:items.isEmpty with
   |false=>rfl
   |true=>rw [q]at h2;cases h2
  by_cases hx:x≤0
  ·have:x=0:=by lia
   subst this;refine qsH rfl ?_
   wp_walk
   exact⟨_,rfl,h⟩
  ·refine qgX (by rw [he,decide_eq_false hx];rfl) ?_
   wp_walk
   refine wpAny_ite_false (decide_eq_false (by lia)) ?_
   wp_walk
   refine qgX (by simp [Builtin.Tuple.tupleTooMany,sizeLine_eq];exact hz') ?_
   wp_walk
   refine wpAny_ite_false (decide_eq_false (by rw [listMul_foldl,List.size_toArray,Array.toList_empty,List.nil_append,lm_len_rep_flat,sizeLine_eq,Array.length_toList,Nat.mul_comm];lia)) ?_
   wp_walk
   exact⟨_,rfl,h⟩
noncomputable def qtl(K:PySem.W.Frag):R2:=fun x y H Q=>∃l xs j,x=.ref l∧y=.int j∧SqT K H l xs∧0≤j∧xs.length * j.toNat≤16777216∧j≤1000000∧((xs=[]∨j=1)→Q (.ref l) H)∧∀p,H p=none→Q (.ref p) (upd H p (.tup (List.replicate j.toNat xs).flatten))
theorem qgA{xs:List V}{its:List Value}(r:Vals xs its):∀n,Vals (List.replicate n xs).flatten (List.replicate n its).flatten
 | 0=>.nil
 |n+1=>by rw [List.replicate_succ,List.replicate_succ];exact r.append (qgA r n)
section
variable{X:Cx}
theorem qpH:OpR X (binaryOp .Mult) (qtl X.K):=by
 intro pins s σ H x y v u Q I rx ry h;obtain⟨l,xs,j,rfl,rfl,hH,h0,hz,hj,q0,q1⟩:=h;cases rx;obtain⟨t,rfl⟩:=ry;obtain⟨its,r,p1,_⟩:=I.tuple hH;have l1:=r.length;obtain⟨⟨cls,dd,data,sl⟩,ho,hc,n,hd⟩:=id p1;simp only at hc hd;subst hc hd;refine wpAny_binaryOp_repeat_ref (T:="tuple") (U:="int") (by decide) ⟨_,ho,rfl⟩ (fun s'=>typeIs_int s' j t) qpM PySem.F.fills_int_mul PySem.F.slot_int_rmul qrZ PySem.F.slot_int_index.lookup
  (call_meets PySem.F.slot_int_rmul (typeIs_int s j t) PySem.F.entry_int_rmul (PySem.F.args_int_rmul_2 _ _) (qpw j t l its.toArray n dd sl) ⟨ho,rfl,⟨_,ho,rfl⟩,?_⟩)
 cases e:(its.toArray.isEmpty||j==1)with
 |true=>
  refine call_meets PySem.F.slot_tuple_mul ⟨_,ho,rfl⟩ PySem.F.entry_tuple_mul (PySem.F.args_tuple_mul_2 _ _) (qoA l its.toArray n dd sl j t h0 (by lia) e) ⟨ho,.ref l,H,I,rfl,q0 ?_⟩;rw [Bool.or_eq_true]at e;rcases e with e|e
  ·refine .inl (List.length_eq_zero_iff.mp ?_);rw [l1];simpa using e
  ·exact .inr (by simpa using e)
 |false=>
  refine call_meets PySem.F.slot_tuple_mul ⟨_,ho,rfl⟩ PySem.F.entry_tuple_mul (PySem.F.args_tuple_mul_2 _ _) (qse l its.toArray n dd sl j t h0 hj (by rw [List.size_toArray,←l1];exact hz) e) ⟨ho,?_⟩;rw [listMul_foldl];rw [Array.toList_empty,List.nil_append];refine⟨.ref s.heap.objs.size,_,I.laid (t':=s.toks) (o:=.tup (List.replicate j.toNat xs).flatten) (fun b ob q=>Heap.get?_push_of_some _ q) (Nat.le_refl _) ?_,rfl,q1 _ (I.hok.fresh (Nat.le_refl _))⟩;exact⟨by rw [lm_len_rep_flat,sizeLine_eq,Nat.mul_comm];exact hz,_,qgA r j.toNat,IsTup.new _ _⟩
end
end L2
namespace EV
open PySem PySem.Spec PySem.P PyProof.Rows L2
mutual
noncomputable def D.py:D→PyData
 | .non=>.none
 | .bl b=>.bool b
 | .int i=>.int i
 | .str x=>.str x
 | .tup xs=>.tuple (pys xs)
 | .lst xs=>.list (pys xs)
 | .fn _=>.none
 | .exn _=>.none
 | .dic=>.none
noncomputable def pys:List D→List PyData
 | []=>[]
 |x::xs=>x.py::pys xs
end
mutual
theorem qld:∀{d:D},d.plain=true→d.py.canLay0=true
 | .non,_ | .bl _,_ | .int _,_=>by simp [D.py,PyData.canLay0]
 | .str x,h=>by simpa [D.py,PyData.canLay0,D.plain]using h
 | .tup xs,h=>by simp only [D.py,PyData.canLay0];exact qfJ (by simpa [D.plain]using h)
 | .lst xs,h=>by simp only [D.py,PyData.canLay0];exact qfJ (by simpa [D.plain]using h)
 | .fn _,h | .exn _,h | .dic,h=>by simp [D.plain]at h
theorem qfJ:∀{ds:List D},plainAll ds=true→PyData.canLayAll0 (pys ds)=true
 | [],_=>by simp [pys,PyData.canLayAll0]
 |x::xs,h=>by
  simp only [plainAll,Bool.and_eq_true]at h;simp only [pys,PyData.canLayAll0,Bool.and_eq_true];exact⟨qld h.1,qfJ h.2⟩
end
mutual
theorem qiF:∀(d:D),d.py.depth=d.deep
 | .non | .bl _ | .int _ | .str _ | .fn _ | .exn _ | .dic=>by simp [D.py,PyData.depth,D.deep]
 | .tup xs=>by simp only [D.py,PyData.depth,D.deep];rw [qeR xs]
 | .lst xs=>by simp only [D.py,PyData.depth,D.deep];rw [qeR xs]
theorem qeR:∀(ds:List D),PyData.depthAll (pys ds)=qar ds
 | []=>by simp [pys,PyData.depthAll,qar]
 |x::xs=>by simp only [pys,PyData.depthAll,qar];rw [qiF x,qeR xs]
end
mutual
theorem qhy:∀(a b:D),a.plain=true→b.plain=true→PyData.eqv a.py b.py=a.eqv b
 | .tup xs,.tup ys,h,h'=>by simp only [D.py,PyData.eqv,D.eqv];exact qgc xs ys (by simpa [D.plain]using h) (by simpa [D.plain]using h')
 | .lst xs,.lst ys,h,h'=>by simp only [D.py,PyData.eqv,D.eqv];exact qgc xs ys (by simpa [D.plain]using h) (by simpa [D.plain]using h')
 | .fn _,_,h,_=>by simp [D.plain]at h
 | .exn _,_,h,_=>by simp [D.plain]at h
 | .dic,_,h,_=>by simp [D.plain]at h
 | .non,b,_,h' | .bl _,b,_,h' | .int _,b,_,h' | .str _,b,_,h'=>by cases b<;>simp [D.py,PyData.eqv,D.eqv,D.plain]at h' ⊢
 | .tup _,.non,_,_ | .tup _,.bl _,_,_ | .tup _,.int _,_,_ | .tup _,.str _,_,_ | .tup _,.lst _,_,_=>by simp [D.py,PyData.eqv,D.eqv]
 | .lst _,.non,_,_ | .lst _,.bl _,_,_ | .lst _,.int _,_,_ | .lst _,.str _,_,_ | .lst _,.tup _,_,_=>by simp [D.py,PyData.eqv,D.eqv]
 | .tup _,.fn _,_,h' | .tup _,.exn _,_,h' | .lst _,.fn _,_,h' | .lst _,.exn _,_,h' | .tup _,.dic,_,h' | .lst _,.dic,_,h'=>by simp [D.plain]at h'
theorem qgc:∀(xs ys:List D),plainAll xs=true→plainAll ys=true→PyData.eqvAll (pys xs) (pys ys)=eqvAll xs ys
 | [],[],_,_=>by simp [pys,PyData.eqvAll,eqvAll]
 |x::xs,y::ys,h,h'=>by
  simp only [plainAll,Bool.and_eq_true]at h h';simp only [pys,PyData.eqvAll,eqvAll];rw [qhy x y h.1 h'.1,qgc xs ys h.2 h'.2]
 | [],_::_,_,_=>by simp [pys,PyData.eqvAll,eqvAll]
 |_::_,[],_,_=>by simp [pys,PyData.eqvAll,eqvAll]
end
theorem Rep.data{g:Gc}{H:Hp}{d:D}{v:V}(h:Rep g H d v):d.plain=true→qaU g.K H v d.py:=
 h.rec (motive_1:=fun d v _=>d.plain=true→qaU g.K H v d.py) (motive_2:=fun ds vs _=>plainAll ds=true→qcd g.K H vs (pys ds)) (fun _=>.non) (fun b _=>.bl b) (fun b _=>.int b) (fun b _=>.str b) (fun q _ r p=>.tup q (r p)) (fun q _ r p=>.lst q (r p)) (fun _ p=>nomatch p) (fun _ _ p=>nomatch p) (fun _ p=>nomatch p) (fun _=>.nil) (fun _ _ a b p=>.cons (a (qkF p).1) (b (qkF p).2))
theorem quh{d:D}:d.asks=true↔d.plain=true∧d.deep≤20:=by simp [D.asks]
section
variable{X:Cx}{g:Gc}
theorem OpR.imp{f:Value→Value→Sem Value}{r r':R2}(h:OpR X f r)(i:∀x y H Q,r' x y H Q→r x y H Q):OpR X f r':=
 fun pins s σ H x y v u Q I rx ry q=>h pins s σ H x y v u Q I rx ry (i _ _ _ _ q)
noncomputable def qtA(K:PySem.W.Frag):R2:=fun x y H Q=>∃l b xs zs,x=.ref l∧y=.ref b∧SqL K H l xs∧SqL K H b zs∧xs.length+zs.length≤sizeLine∧∀p,H p=none→Q (.ref p) (upd H p (.lst (xs++zs)))
theorem qpo:OpR X (binaryOp .Add) (qtA X.K):=by
 intro pins s σ H x y v u Q I rx ry h;obtain⟨l,b,xs,zs,rfl,rfl,hH,hB,hz,q⟩:=h;cases rx;cases ry;obtain⟨its,r,pl,z⟩:=I.list hH;obtain⟨its2,r2,pl2,z2⟩:=I.list hB;have l1:=r.length;have l2:=r2.length;obtain⟨⟨cls,dd,data,sl⟩,ho,hc,n,hd⟩:=pl.isList;obtain⟨⟨cls2,dd2,data2,sl2⟩,ho2,hc2,n2,hd2⟩:=pl2.isList;simp only at hc hd hc2 hd2;subst hc hd hc2 hd2;refine concat_meets ⟨_,ho,rfl⟩ ⟨_,ho2,rfl⟩ noFill_list_add seq_list_add PySem.F.slot_list_add PySem.F.entry_list_add (PySem.F.args_list_add_2 _ _) (list_addW l b its.toArray its2.toArray n n2 dd dd2 sl sl2 (by rw [List.size_toArray,List.size_toArray];lia)) ⟨ho,ho2,?_⟩;have ea:its.toArray++its2.toArray=(its++its2).toArray:=by simp
 rw [ea];exact⟨.ref _,_,I.lnew (t':=s.toks) (r.append r2) (by rw [List.length_append];lia),rfl,q _ I.fresh⟩
noncomputable def qtu(K:PySem.W.Frag):R2:=fun x y H Q=>∃l xs j,x=.ref l∧y=.int j∧SqL K H l xs∧0≤j∧xs.length * j.toNat≤16777216∧j≤1000000∧∀p,H p=none→Q (.ref p) (upd H p (.lst (List.replicate j.toNat xs).flatten))
theorem qhx{xs:List V}{its:List Value}(r:Vals xs its):∀n,Vals (List.replicate n xs).flatten (List.replicate n its).flatten
 | 0=>.nil
 |n+1=>by rw [List.replicate_succ,List.replicate_succ];exact r.append (qhx r n)
theorem quw:OpR X (binaryOp .Mult) (qtu X.K):=by
 intro pins s σ H x y v u Q I rx ry h;obtain⟨l,xs,j,rfl,rfl,hH,h0,hz,hj,q⟩:=h;cases rx;obtain⟨t,rfl⟩:=ry;obtain⟨its,r,pl,z⟩:=I.list hH;have l1:=r.length;obtain⟨⟨cls,dd,data,sl⟩,ho,hc,n,hd⟩:=pl.isList;simp only at hc hd;subst hc hd;have hz':its.toArray.size * j.toNat≤16777216:=by rw [List.size_toArray,←l1];exact hz
 refine wpAny_binaryOp_repeat_ref (T:="list") (U:="int") (by decide) ⟨_,ho,rfl⟩ (fun s'=>typeIs_int s' j t) noFill_list_mul PySem.F.fills_int_mul PySem.F.slot_int_rmul repeat_list PySem.F.slot_int_index.lookup
  (call_meets PySem.F.slot_int_rmul (typeIs_int s j t) PySem.F.entry_int_rmul (PySem.F.args_int_rmul_2 _ _) (lm_int_rmul_list_any j t l its.toArray n dd sl) ⟨ho,rfl,⟨_,ho,rfl⟩,call_meets PySem.F.slot_list_mul ⟨_,ho,rfl⟩ PySem.F.entry_list_mul (PySem.F.args_list_mul_2 _ _) (lm_list_mul_any l its.toArray n dd sl j t (by simp [Builtin.List.listFitsIndex];lia) (by lia) (by simp [Builtin.List.listTooLong,sizeLine];lia)) ⟨ho,?_⟩⟩)
 rw [listMul_foldl_if];exact⟨.ref _,_,I.lnew (t':=s.toks) (qhx r j.toNat) (by rw [lm_len_rep_flat,sizeLine_eq,Nat.mul_comm];exact hz),rfl,q _ I.fresh⟩
theorem qh.rep{H:Hp}{ds:List D}{vs:List V}(r:qh g H ds vs):∀n,qh g H (List.replicate n ds).flatten (List.replicate n vs).flatten
 | 0=>.nil
 |n+1=>by rw [List.replicate_succ,List.replicate_succ];exact r.append (qh.rep r n)
noncomputable def rOp(g:Gc)(o:O2):R2:=fun x y H Q=>∃S da db,Sub S H∧zE g H S da x∧zE g H S db y ∧
 match op2 o da db with
 | .ok d=>∀v H',qf H H'→Rep g (hid H' S) d v→(qog da=true→Fr g H S H' d v)→Q v H'
 |_=>False
theorem qaR{o:O2}(ho:o≠.add)(hm:o≠.mul){da db d:D}(h:op2 o da db=.ok d):∃i j,da=.int i∧db=.int j∧opI o i j=.ok d:=by
 unfold op2 at h;split at h
 ·exact⟨_,_,rfl,rfl,h⟩
 ·rw [if_neg (fun z=>ho z.1)]at h;cases h
 ·rw [if_neg (fun z=>ho z.1)]at h;cases h
 ·rw [if_neg (fun z=>hm z.1)]at h;cases h
 ·rw [if_neg (fun z=>hm z.1)]at h;cases h
 ·cases h
theorem qhH{j:Int}(h:small j=true):-(2^64)<j∧j<2^64:=by simpa [small]using h
theorem qoi{n:Nat}(h:n≤SZ):n≤sizeLine:=Nat.le_trans h (by rw [sizeLine_eq];decide)
theorem log2_small{j:Int}(h1:0<j)(h2:j<1000000000000000000000000000000):j.natAbs.log2<9000:=by
 have h3:j.natAbs<2^100:=by
  have:(2:Nat)^100=1267650600228229401496703205376:=by decide +kernel
  rw [this];lia
 have:=(Nat.log2_lt (n:=j.natAbs) (k:=100) (by lia)).mpr h3;lia
theorem qmA:OpR X (binaryOp .FloorDiv) (rI (fun _ j=>0<j∧j<1000000000000000000000000000000) fun i j=>.int (i/j)):=L2.opI fun i j _ _ _ _ _ hc q=>by
 have h1:(0:Int)<j:=hc.1;exact floordiv_int (by lia) (by rw [Int.fdiv_eq_ediv_of_nonneg i (by lia)];exact q) (.inl (PyProof.noPylong_of_log2 (log2_small hc.1 hc.2)))
theorem qqE(hK:X.K=g.K){op:Operator}{o:O2}(h:o2 op=some o):OpR X (binaryOp op) (rOp g o):=by
 have two:∀{f:Value→Value→Sem Value}{C:Int→Int→Prop}{q:Int→Int→Int} (o:O2),OpR X f (rI C fun i j=>.int (q i j))→(∀da db d,op2 o da db=.ok d→∃i j,da=.int i∧db=.int j∧C i j∧d=.int (q i j))→OpR X f (rOp g o):=fun o k e=>by
  refine OpR.imp k fun x y H Q ⟨S,da,db,hs,ra,rb,m⟩=>?_
  cases e1:op2 o da db with
  |ok d=>
   rw [e1]at m;obtain⟨i,j,rfl,rfl,c,rfl⟩:=e da db d e1;exact⟨i,j,ra.int,rb.int,c,m _ _ (qf.refl _) (.int _) (fun z=>nomatch z)⟩
  |ex c=>rw [e1]at m;exact m.elim
  |no=>rw [e1]at m;exact m.elim
 have two0:∀{f:Value→Value→Sem Value}{q:Int→Int→Int} (o:O2),OpR X f (rI0 fun i j=>.int (q i j))→(∀da db d,op2 o da db=.ok d→∃i j,da=.int i∧db=.int j∧d=.int (q i j))→OpR X f (rOp g o):=fun {f q} o k e=>
  two (C:=fun _ _=>True) (q:=q) o (OpR.imp k fun x y H Q ⟨i,j,h1,h2,_,h3⟩=>⟨i,j,h1,h2,h3⟩) fun da db d h=>by
   obtain⟨i,j,h1,h2,h3⟩:=e da db d h;exact⟨i,j,h1,h2,trivial,h3⟩
 cases op<;>simp only [o2,Option.some.injEq]at h<;>first|subst h|cases h
 ·-- Add
  refine OpR.imp (quB.or (quv.or qpo)) fun x y H Q ⟨S,da,db,hs,ra,rb,m⟩=>?_
  cases da with
  |int i=>
   cases db with
   |int j=>exact .inl ⟨i,j,ra.int,rb.int,m _ _ (qf.refl _) (.int _) (fun z=>nomatch z)⟩
   |_=>exact m.elim
  |tup xs=>
   cases db with
   |tup ys=>
    simp only [op2,true_and]at m;split at m
    ·rename_i e
     split at e<;>cases e
     rename_i hz
     obtain⟨a,vs,rfl,h1,r1⟩:=ra.tup;obtain⟨b,us,rfl,h2,r2⟩:=rb.tup;refine .inr (.inl ⟨a,b,vs,us,rfl,rfl,by rw [hK];exact h1,by rw [hK];exact h2,by rw [←r1.length,←r2.length];exact qoi hz,fun e=>?_,fun _ e=>?_,fun _ _ p hp=>?_⟩)
     ·subst e;cases r1;exact m _ _ (qf.refl _) (rb.strong (by intro _ z;cases z)) (fun z=>nomatch z)
     ·subst e;cases r2;rw [List.append_nil]at m;exact m _ _ (qf.refl _) (ra.strong (by intro _ z;cases z)) (fun z=>nomatch z)
     ·exact m _ _ (qu hp) (qaM hs hp (r1.append r2)) (fun z=>nomatch z)
    ·exact m.elim
   |_=>exact m.elim
  |lst xs=>
   cases db with
   |lst ys=>
    simp only [op2,true_and]at m;split at m
    ·rename_i e
     split at e<;>cases e
     rename_i hz
     obtain⟨a,vs,rfl,h1,r1⟩:=ra.lst;obtain⟨b,us,rfl,h2,r2⟩:=rb.lst;refine .inr (.inr ⟨a,b,vs,us,rfl,rfl,by rw [hK];exact h1,by rw [hK];exact h2,by rw [←r1.length,←r2.length];exact qoi hz,fun p hp=>?_⟩);exact m _ _ (qu hp) (qas hs hp (r1.append r2)) (fun _=>qbr (qf.refl _) hp (r1.append r2))
    ·exact m.elim
   |_=>exact m.elim
  |_=>exact m.elim
 ·exact two0 .sub qrY fun da db d h=>by obtain⟨i,j,rfl,rfl,h'⟩:=qaR (by decide) (by decide) h;clear h;rename _=>h;cases h;exact⟨_,_,rfl,rfl,rfl⟩
 ·refine OpR.imp (quA.or (quw.or qpH)) fun x y H Q ⟨S,da,db,hs,ra,rb,m⟩=>?_
  cases e1:op2 .mul da db with
  |ok d=>
   rw [e1]at m;unfold op2 at e1;split at e1
   ·simp only [opI]at e1;split at e1
    ·rename_i i j hc
     cases e1;refine .inl ⟨i,j,ra.int,rb.int,?_,m _ _ (qf.refl _) (.int _) (fun z=>nomatch z)⟩;rcases(by simpa using hc)with z|z
     ·exact .inl (qhH z)
     ·exact .inr (qhH z)
    ·cases e1
   ·rw [if_neg (fun z=>nomatch z.1)]at e1;cases e1
   ·rw [if_neg (fun z=>nomatch z.1)]at e1;cases e1
   ·split at e1
    ·rename_i xs j hc
     cases e1;obtain⟨a,vs,rfl,h1,r1⟩:=ra.lst;refine .inr (.inl ⟨a,vs,j,rfl,rb.int,by rw [hK];exact h1,hc.2.1,by rw [←r1.length];exact Nat.le_trans hc.2.2.1 (by decide),hc.2.2.2,fun p hp=>m _ _ (qu hp) (qas hs hp (r1.rep _)) (fun _=>qbr (qf.refl _) hp (r1.rep _))⟩)
    ·cases e1
   ·split at e1
    ·rename_i xs j hc
     cases e1;obtain⟨a,vs,rfl,h1,r1⟩:=ra.tup;refine .inr (.inr ⟨a,vs,j,rfl,rb.int,by rw [hK];exact h1,hc.2.1,by rw [←r1.length];exact Nat.le_trans hc.2.2.1 (by decide),hc.2.2.2,fun z=>?_,fun p hp=>m _ _ (qu hp) (qaM hs hp (r1.rep _)) (fun z=>nomatch z)⟩);have e:(List.replicate j.toNat xs).flatten=xs:=by
      rcases z with z|z
      ·have:xs=[]:=by
        subst z;cases r1;rfl
       subst this;exact lm_rep_nil _
      ·subst z;simp
     rw [e]at m;exact m _ _ (qf.refl _) (ra.strong (by intro _ z;cases z)) (fun z=>nomatch z)
    ·cases e1
   ·cases e1
  |ex c=>rw [e1]at m;exact m.elim
  |no=>rw [e1]at m;exact m.elim
 ·exact two .mod qrJ fun da db d h=>by obtain⟨i,j,rfl,rfl,h'⟩:=qaR (by decide) (by decide) h;clear h;rename _=>h;simp only [opI]at h;split at h<;>cases h;rename_i hc;exact⟨_,_,rfl,rfl,hc,rfl⟩
 ·exact two .pow qqF fun da db d h=>by obtain⟨i,j,rfl,rfl,h'⟩:=qaR (by decide) (by decide) h;clear h;rename _=>h;simp only [opI]at h;split at h<;>cases h;rename_i hc;exact⟨_,_,rfl,rfl,hc,rfl⟩
 ·exact two .shl qqq fun da db d h=>by obtain⟨i,j,rfl,rfl,h'⟩:=qaR (by decide) (by decide) h;clear h;rename _=>h;simp only [opI]at h;split at h<;>cases h;rename_i hc;exact⟨_,_,rfl,rfl,hc,rfl⟩
 ·exact two .shr qrf fun da db d h=>by obtain⟨i,j,rfl,rfl,h'⟩:=qaR (by decide) (by decide) h;clear h;rename _=>h;simp only [opI]at h;split at h<;>cases h;rename_i hc;exact⟨_,_,rfl,rfl,hc,rfl⟩
 ·exact two0 .bor qsX fun da db d h=>by obtain⟨i,j,rfl,rfl,h'⟩:=qaR (by decide) (by decide) h;clear h;rename _=>h;cases h;exact⟨_,_,rfl,rfl,rfl⟩
 ·exact two0 .bxor qqQ fun da db d h=>by obtain⟨i,j,rfl,rfl,h'⟩:=qaR (by decide) (by decide) h;clear h;rename _=>h;cases h;exact⟨_,_,rfl,rfl,rfl⟩
 ·exact two0 .band qrK fun da db d h=>by obtain⟨i,j,rfl,rfl,h'⟩:=qaR (by decide) (by decide) h;clear h;rename _=>h;cases h;exact⟨_,_,rfl,rfl,rfl⟩
 ·exact two .fdiv qmA fun da db d h=>by obtain⟨i,j,rfl,rfl,h'⟩:=qaR (by decide) (by decide) h;clear h;rename _=>h;simp only [opI]at h;split at h<;>cases h;rename_i hc;exact⟨_,_,rfl,rfl,hc,rfl⟩
theorem qds(hK:X.K=g.K){pins:List (Addr×Obj)}{σ:L2.St}{H:Hp}{s:Shared}(I:Inv X pins σ H s){d:D}{v:V}{u:Value}(r:Rep g H d v)(a:d.asks=true)(ru:RelV v u):∃as,Reads s.heap u d.py as∧d.py.canLay0=true∧d.py.depth≤20:=by
 obtain⟨h1,h2⟩:=quh.mp a;have h:=r.data h1;rw [←hK]at h;obtain⟨as,q⟩:=I.reads h ru;exact⟨as,q,qld h1,by rw [qiF];exact h2⟩
theorem qiW:∀(a b:List Int),qbh a b=HT.lexLt a b
 | [],[]=>by simp [qbh,HT.lexLt]
 | [],_::_=>by simp [qbh,HT.lexLt]
 |_::_,[]=>by simp [qbh,HT.lexLt]
 |a::r,b::t=>by
  simp only [qbh,HT.lexLt];rw [qiW r t]
  try (by_cases h:a=b<;>simp [h])
noncomputable def rCm(g:Gc)(c:C2):R2:=fun x y H Q=>∃S da db,zE g H S da x∧zE g H S db y ∧
 match qi c da db with
 | .ok b=>Q (.bl b) H
 |_=>False
open Classical in
noncomputable def qbC(h:Heap)(q:PyData)(u:Value):Bool:=if e:∃d as,Reads h u d as then PyData.eqv e.choose q else false
theorem qhF{h:Heap}{q d:PyData}{u:Value}{as:List Addr}(r:Reads h u d as):qbC h q u=PyData.eqv d q:=by
 have e:∃d as,Reads h u d as:=⟨d,as,r⟩
 unfold qbC;rw [dif_pos e];obtain⟨bs,r'⟩:=e.choose_spec;rw [(PySem.Reads.unique r' d as r).1]
theorem any_eq(hK:X.K=g.K){pins:List (Addr×Obj)}{σ:L2.St}{H:Hp}{s:Shared}(I:Inv X pins σ H s){da:D}(ha:da.asks=true){ds:List D}:∀{vs:List V}{us:List Value},qh g H ds vs→Vals vs us→ds.all D.asks=true →
  us.any (qbC s.heap da.py)=inD da ds∧∀u∈us,∃d as,Reads s.heap u d as∧d.canLay0=true∧d.depth≤20:=by
 induction ds with
 |nil=>intro vs us h r _;cases h;cases r;exact⟨rfl,fun u h=>nomatch h⟩
 |cons d ds ih=>
  intro vs us h q e;cases h with
  |cons h r=>cases q with
   |cons q t=>
    rw [List.all_cons,Bool.and_eq_true]at e;obtain⟨as,h1,h2,h3⟩:=qds hK I h e.1 q;obtain⟨i1,i2⟩:=ih r t e.2;refine⟨?_,fun u hu=>?_⟩
    ·rw [List.any_cons,i1,qhF h1,qhy _ _ (quh.mp e.1).1 (quh.mp ha).1]
     rfl
    ·rcases List.mem_cons.mp hu with rfl|hu
     ·exact⟨_,as,h1,h2,h3⟩
     ·exact i2 u hu
theorem qqT{A:Around}{s:Shared}{u v:Value}{d:PyData}{as:List Addr}{q:PyData}{bs:List Addr}(hu:A.units+60<cLine)(r:Reads s.heap u d as)(r':Reads s.heap v q bs)(h1:d.canLay0=true)(h2:q.canLay0=true)(h3:d.depth≤20):SeqAt.EqAt A.in1 s u v (qbC s.heap q u):=by
 rw [qhF r];refine SeqAt.eqAt_reads d q A.in1 s u v as bs r r' h1 h2 ?_;have:min d.depth q.depth≤d.depth:=Nat.min_le_left _ _;show A.units+1+_<_;lia
theorem qoa(hK:X.K=g.K)(hu:X.A.units+64<cLine)(neg:Bool):OpR X (compareOp (if neg then .NotIn else .In)) (fun x y H Q=>∃S da db ds,zE g H S da x∧zE g H S db y∧seq? db=some ds∧da.asks=true∧ds.all D.asks=true∧Q (.bl (if neg then !inD da ds else inD da ds)) H):=by
 intro pins s σ H x y v u Q I rx ry h;obtain⟨S,da,db,ds,ra,rb,es,aa,ad,q⟩:=h;obtain⟨as,h1,h2,h3⟩:=qds hK I ra.rep aa rx;obtain⟨a,vs,rfl,hsq,rr⟩:=rb.seq es;cases ry;have go:∀{its:List Value},Vals vs its→(∀w∈its.toArray,SeqAt.EqAt X.A.in1 s w v (qbC s.heap da.py w))∧its.toArray.any (qbC s.heap da.py)=inD da ds:=fun {its} rv=>by
  obtain⟨i1,i2⟩:=any_eq hK I aa (rr.mono qab) rv ad;refine⟨fun w hw=>?_,by simpa using i1⟩;obtain⟨d,bs,r1,r2,r3⟩:=i2 w (by simpa using hw);exact qqT (Nat.lt_of_le_of_lt (Nat.add_le_add_left (by decide) _) hu) r1 h1 r2 h2 r3
 rcases hsq with hsq|hsq
 ·obtain⟨its,rv,pl,_⟩:=I.list (by rw [hK];exact hsq);obtain⟨g1,g2⟩:=go rv;cases neg with
  |false=>exact SeqAt.in_listAt (qbC s.heap da.py) pl.isList g1 ⟨.bl _,H,I,rfl,by rw [g2];exact q⟩
  |true=>exact SeqAt.notIn_listAt (qbC s.heap da.py) pl.isList g1 ⟨.bl _,H,I,rfl,by rw [g2];exact q⟩
 ·obtain⟨its,rv,pl,_⟩:=I.tuple (by rw [hK];exact hsq);obtain⟨g1,g2⟩:=go rv;cases neg with
  |false=>exact SeqAt.in_tupleAt (qbC s.heap da.py) pl g1 ⟨.bl _,H,I,rfl,by rw [g2];exact q⟩
  |true=>exact SeqAt.notIn_tupleAt (qbC s.heap da.py) pl g1 ⟨.bl _,H,I,rfl,by rw [g2];exact q⟩
theorem qnV(hK:X.K=g.K)(hu:X.A.units+64<cLine)(neg:Bool):OpR X (compareOp (if neg then .NotEq else .Eq)) (fun x y H Q=>∃S da db,zE g H S da x∧zE g H S db y∧da.asks=true∧db.asks=true∧Q (.bl (if neg then !da.eqv db else da.eqv db)) H):=by
 intro pins s σ H x y v u Q I rx ry h;obtain⟨S,da,db,ra,rb,aa,ab,q⟩:=h;obtain⟨as,h1,h2,h3⟩:=qds hK I ra.rep aa rx;obtain⟨bs,k1,k2,k3⟩:=qds hK I rb.rep ab ry;have e:=qhy da db (quh.mp aa).1 (quh.mp ab).1;have room:X.A.units+min da.py.depth db.py.depth<cLine:=by
  have:min da.py.depth db.py.depth≤da.py.depth:=Nat.min_le_left _ _;lia
 cases neg with
 |false=>exact SeqAt.compareEq_reads h1 k1 h2 k2 room ⟨.bl _,H,I,by rw [e];rfl,q⟩
 |true=>exact SeqAt.compareNe_reads h1 k1 h2 k2 room ⟨.bl _,H,I,by rw [e];rfl,q⟩
theorem zE.non_iff{S:Sh}{H:Hp}{d:D}{v:V}(r:zE g H S d v):decide (v=.non)=qfg d:=by
 cases r.rep<;>rfl
theorem qbG{op:CmpOp}{c:C2}{r:R2}(h:OpR X (compareOp op) r)(k:∀S da db b x y H Q,zE g H S da x→zE g H S db y→qi c da db=.ok b→Q (.bl b) H→r x y H Q):OpR X (compareOp op) (rCm g c):=by
 refine OpR.imp h fun x y H Q ⟨S,da,db,ra,rb,m⟩=>?_
 cases e:qi c da db with
 |ok b=>rw [e]at m;exact k S da db b x y H Q ra rb e m
 |ex c'=>rw [e]at m;exact m.elim
 |no=>rw [e]at m;exact m.elim
theorem qqG:OpR X (compareOp .Is) (fun x y H Q=>∃a b,x=.bl a∧y=.bl b∧Q (.bl (a==b)) H):=by
 intro pins s σ H x y v u Q I rx ry h;obtain⟨a,b,rfl,rfl,q⟩:=h;cases rx;cases ry;exact is_bool (qfp I q rfl)
theorem qlA:OpR X (compareOp .IsNot) (fun x y H Q=>∃a b,x=.bl a∧y=.bl b∧Q (.bl (!(a==b))) H):=by
 intro pins s σ H x y v u Q I rx ry h;obtain⟨a,b,rfl,rfl,q⟩:=h;cases rx;cases ry;exact isnot_bool (qfp I q rfl)
theorem qkU{n:Bool}{a b:EV.D}{c:Bool}(h:isB n a b=.ok c):∃x y,a=.bl x∧b=.bl y∧c=(n != (x==y)):=by
 unfold isB at h;split at h
 ·cases h;exact⟨_,_,rfl,rfl,rfl⟩
 ·cases h
theorem qaF(hK:X.K=g.K)(hu:X.A.units+64<cLine)(op:CmpOp):OpR X (compareOp op) (rCm g (c2 op)):=by
 cases op
 ·exact qbG (qnV hK hu false) fun S da db b x y H Q ra rb e q=>by
   simp only [c2,qi]at e;split at e<;>cases e
   rename_i a
   simp only [Bool.and_eq_true]at a;exact⟨S,da,db,ra,rb,a.1,a.2,q⟩
 ·exact qbG (qnV hK hu true) fun S da db b x y H Q ra rb e q=>by
   simp only [c2,qi]at e;split at e<;>cases e
   rename_i a
   simp only [Bool.and_eq_true]at a;exact⟨S,da,db,ra,rb,a.1,a.2,q⟩
 ·exact qbG (quC.or (qsq (by lia))) fun S da db b x y H Q ra rb e q=>by
   simp only [c2]at e;cases da with
   |int i=>
    cases db with
    |int j=>cases e;exact .inl ⟨i,j,ra.int,rb.int,q⟩
    |_=>cases e
   |tup xs=>
    cases db with
    |tup ys=>
     simp only [qi]at e;split at e
     ·rename_i ns ms e1 e2
      cases e;obtain⟨a,vs,rfl,h1,r1⟩:=ra.tup;obtain⟨b,us,rfl,h2,r2⟩:=rb.tup;obtain⟨rfl,_⟩:=r1.ints e1;obtain⟨rfl,_⟩:=r2.ints e2;exact .inr ⟨a,b,ns,ms,rfl,rfl,by rw [hK];exact h1,by rw [hK];exact h2,qiW ns ms▸q⟩
     ·cases e
    |_=>cases e
   |_=>cases db<;>cases e
 ·exact qbG qtw fun S da db b x y H Q ra rb e q=>by
   cases da with
   |int i=>
    cases db with
    |int j=>cases e;exact⟨_,_,ra.int,rb.int,q⟩
    |_=>cases e
   |_=>cases e
 ·exact qbG qsI fun S da db b x y H Q ra rb e q=>by
   cases da with
   |int i=>
    cases db with
    |int j=>cases e;exact⟨_,_,ra.int,rb.int,q⟩
    |_=>cases e
   |_=>cases e
 ·exact qbG qsU fun S da db b x y H Q ra rb e q=>by
   cases da with
   |int i=>
    cases db with
    |int j=>cases e;exact⟨_,_,ra.int,rb.int,q⟩
    |_=>cases e
   |_=>cases e
 ·exact qbG (quz.or qqG) fun S da db b x y H Q ra rb e q=>by
   simp only [c2,qi]at e;split at e
   ·rename_i hd
    cases e;have hd:db=.non:=by cases db<;>first|rfl|cases hd
    subst hd;cases rb.rep;exact .inl ⟨rfl,by rw [ra.non_iff];exact q⟩
   ·obtain⟨a,c,rfl,rfl,rfl⟩:=qkU e;cases ra.rep;cases rb.rep;exact .inr ⟨a,c,rfl,rfl,by cases a<;>cases c<;>exact q⟩
 ·exact qbG (quu.or qlA) fun S da db b x y H Q ra rb e q=>by
   simp only [c2,qi]at e;split at e
   ·rename_i hd
    cases e;have hd:db=.non:=by cases db<;>first|rfl|cases hd
    subst hd;cases rb.rep;exact .inl ⟨rfl,by rw [ra.non_iff];exact q⟩
   ·obtain⟨a,c,rfl,rfl,rfl⟩:=qkU e;cases ra.rep;cases rb.rep;exact .inr ⟨a,c,rfl,rfl,by cases a<;>cases c<;>exact q⟩
 ·exact qbG (qoa hK hu false) fun S da db b x y H Q ra rb e q=>by
   simp only [c2,qi]at e;split at e
   ·rename_i xs es
    split at e<;>cases e
    rename_i a
    simp only [Bool.and_eq_true]at a;exact⟨S,da,db,xs,ra,rb,es,a.1,a.2,q⟩
   ·cases e
 ·exact qbG (qoa hK hu true) fun S da db b x y H Q ra rb e q=>by
   simp only [c2,qi]at e;split at e
   ·rename_i xs es
    split at e<;>cases e
    rename_i a
    simp only [Bool.and_eq_true]at a;exact⟨S,da,db,xs,ra,rb,es,a.1,a.2,q⟩
   ·cases e
end
abbrev qbW(g:Gc)(H:Hp)(S:Sh):List D→List V→Prop:=Paired (zE g H S)
section
variable{X:Cx}{g:Gc}
theorem qiI{H:Hp}{ds:List D}{vs:List V}{i:Int}{d:D}(r:qh g H ds vs)(e:atI ds i=some d):∃v,atI vs i=some v∧Rep g H d v:=by
 unfold atI at e ⊢;rw [←r.length];cases q:ixN ds.length i with
 |none=>rw [q]at e;cases e
 |some j=>rw [q]at e;exact r.get e
noncomputable def qut(g:Gc):R2:=fun x y H Q=>∃S da db,zE g H S da x∧zE g H S db y ∧
 match ixD da db with
 | .ok d=>∀v,Rep g (hid H S) d v→Q v H
 |_=>False
theorem qro(hK:X.K=g.K):IxR X (qut g):=by
 have k:IxR X (fun x y H Q=>qrS X.K x y H Q∨qsw X.K x y H Q):=qux.or qrR;intro value slice pins s σ H x y v u Q I rx ry h hs;refine k value slice pins s σ H x y v u Q I rx ry ?_ hs;obtain⟨S,da,db,ra,rb,m⟩:=h;cases da with
 |tup xs=>
  cases db with
  |int i=>
   simp only [ixD]at m;cases e:atI xs i with
   |none=>rw [e]at m;exact m.elim
   |some d=>
    rw [e]at m;obtain⟨a,vs,rfl,h1,r1⟩:=ra.tup;obtain⟨w,h2,h3⟩:=qiI r1 e;exact .inr ⟨a,vs,i,w,rfl,rb.int,by rw [hK];exact h1,h2,m w h3⟩
  |_=>exact m.elim
 |lst xs=>
  cases db with
  |int i=>
   simp only [ixD]at m;cases e:atI xs i with
   |none=>rw [e]at m;exact m.elim
   |some d=>
    rw [e]at m;obtain⟨a,vs,rfl,h1,r1⟩:=ra.lst;obtain⟨w,h2,h3⟩:=qiI r1 e;exact .inl ⟨a,vs,i,w,rfl,rb.int,by rw [hK];exact h1,h2,m w h3⟩
  |_=>exact m.elim
 |_=>exact m.elim
noncomputable def quc(g:Gc):V→Option Int→Option Int→Hp→VK→Prop:=fun x lo hi H Q=>∃S da,Sub S H∧zE g H S da x ∧
 match slD da lo hi with
 | .ok d=>∀v H',qf H H'→Rep g (hid H' S) d v→Q v H'
 |_=>False
theorem qhf{H:Hp}{ds:List D}{vs:List V}(r:qh g H ds vs)(lo hi:Option Int):qh g H (cutD ds lo hi) (qed vs lo hi):=by
 unfold cutD qed;rw [r.length];exact(r.drop _).take _
theorem qqx(hK:X.K=g.K):SlR X (quc g):=by
 intro pins s σ H x v vl vu lo hi sl Q I rx hs pl pu h;obtain⟨S,da,hS,ra,m⟩:=h;cases da with
 |lst xs=>
  obtain⟨a,vs,rfl,h1,r1⟩:=ra.lst;exact qpU pins s σ H _ v vl vu lo hi sl Q I rx hs pl pu ⟨a,vs,rfl,by rw [hK];exact h1,fun p hp=>m _ _ (qu hp) (qas hS hp (qhf r1 lo hi))⟩
 |tup xs=>
  obtain⟨a,vs,rfl,h1,r1⟩:=ra.tup;simp only [slD]at m;by_cases hw:HT.sIx xs.length 0 lo=0∧HT.sIx xs.length xs.length hi=xs.length
  ·have e:cutD xs lo hi=xs:=by unfold cutD;rw [hw.1,hw.2];simp
   rw [e]at m;rw [r1.length]at hw;exact qny pins s σ H _ v vl vu lo hi sl Q I rx hs pl pu ⟨a,vs,rfl,by rw [hK];exact h1,hw.1,hw.2,m _ _ (qf.refl _) (ra.strong (by intro _ z;cases z))⟩
  ·rw [r1.length]at hw;exact qsr pins s σ H _ v vl vu lo hi sl Q I rx hs pl pu ⟨a,vs,rfl,by rw [hK];exact h1,hw,fun p hp=>m _ _ (qu hp) (qaM hS hp (qhf r1 lo hi))⟩
 |_=>exact m.elim
noncomputable def b1V:B1→Value
 | .len=>.builtin "len"
 | .tuple=>.type "tuple"
 | .list=>.type "list"
 | .sorted=>.builtin "sorted"
 | .all=>.builtin "all"
 | .any=>.builtin "any"
 | .sum=>.builtin "sum"
 | .min=>.builtin "min"
 | .max=>.builtin "max"
 | .abs=>.builtin "abs"
 | .int=>.type "int"
 | .bool=>.type "bool"
noncomputable def rB1(g:Gc)(b:B1):List V→Hp→VK→Prop:=fun vs H Q=>∃S ds,Sub S H∧qbW g H S ds vs ∧
 match b1 b ds with
 | .ok d=>∀v H',qf H H'→Rep g (hid H' S) d v→(b=.list∨b=.sorted→Fr g H S H' d v)→Q v H'
 |_=>False
theorem qz.imp{f:Value}{r r':List V→Hp→VK→Prop}(h:qz X f r)(i:∀xs H Q,r' xs H Q→r xs H Q):qz X f r':=
 fun pins s σ H xs us Q I rv q=>h pins s σ H xs us Q I rv (i _ _ _ q)
theorem qbk{f:Value}{b:B1}{r:List V→Hp→VK→Prop}(h:qz X f r)
  (k:∀S ds d vs H Q,Sub S H→qbW g H S ds vs→b1 b ds=.ok d→(∀v H',qf H H'→Rep g (hid H' S) d v→(b=.list∨b=.sorted→Fr g H S H' d v)→Q v H')→r vs H Q):qz X f (rB1 g b):=by
 refine qz.imp h fun vs H Q ⟨S,ds,hs,rs,m⟩=>?_
 cases e:b1 b ds with
 |ok d=>rw [e]at m;exact k S ds d vs H Q hs rs e m
 |ex c=>rw [e]at m;exact m.elim
 |no=>rw [e]at m;exact m.elim
theorem qby{b:B1}(hb:∀x y,b12 b x y=.no){ds:List D}{d:D}(h:b1 b ds=.ok d):∃x,ds=[x]∧b11 b x=.ok d:=by
 match ds,h with
 | [x],h=>exact⟨x,rfl,h⟩
 | [x,y],h=>have h:b12 b x y=.ok d:=h;rw [hb]at h;cases h
 | [],h=>cases h
 |_::_::_::_,h=>cases h
theorem qdx{x r:D}{k:List D→R D}(h:qcl x k=.ok r):∃xs,x=.lst xs∧k xs=.ok r:=by
 cases x with
 |lst xs=>exact⟨xs,rfl,h⟩
 |_=>cases h
theorem qfY{x r:D}{f:Int→R D}{q:Bool→R D}(h:ibR x f q=.ok r):(∃i,x=.int i∧f i=.ok r)∨(∃b,x=.bl b∧q b=.ok r):=by
 cases x with
 |int i=>exact .inl ⟨i,rfl,h⟩
 |bl i=>exact .inr ⟨i,rfl,h⟩
 |_=>cases h
theorem qjl{x y r:D}{k:Int→Int→R D}(h:iiR x y k=.ok r):∃i j,x=.int i∧y=.int j∧k i j=.ok r:=by
 cases x with
 |int i=>
  cases y with
  |int j=>exact⟨i,j,rfl,rfl,h⟩
  |_=>cases h
 |_=>cases h
theorem qcr{α β:Type}{o:Option α}{k:α→R β}{r:β}(h:qaq o k=.ok r):∃a,o=some a∧k a=.ok r:=by
 cases o with
 |some a=>exact⟨a,rfl,h⟩
 |none=>cases h
theorem qgb{b:B1}{ds:List D}{d:D}{q:List D→R D}(h:b1 b ds=.ok d)(e:∀x,b1 b [x]=qaq (seq? x) q)(n:ds.length≠1→b1 b ds=.no):∃x xs,ds=[x]∧seq? x=some xs∧q xs=.ok d:=by
 match ds with
 | []=>rw [n (by simp)]at h;cases h
 | [x]=>
  rw [e]at h;cases z:seq? x with
  |none=>rw [z]at h;cases h
  |some xs=>rw [z]at h;exact⟨x,xs,rfl,z,h⟩
 |x::y::r=>rw [n (by simp)]at h;cases h
theorem qqu(hK:X.K=g.K):qz X (.builtin "len") (rB1 g .len):=qbk qhP fun S ds d vs H Q hs rs h q=>by
 obtain⟨x,xs,rfl,e,h⟩:=qgb (q:=fun xs=>.ok (.int xs.length)) h (fun _=>rfl) (fun n=>by match ds,n with | [],_=>rfl | [_,_],_=>rfl|_::_::_::_,_=>rfl);cases h;cases rs with
 |cons r rs=>
  cases rs;obtain⟨a,us,rfl,h1,r1⟩:=r.seq e;exact⟨a,us,rfl,by rw [hK];exact h1,by rw [←r1.length];exact q _ _ (qf.refl _) (.int _) (by simp)⟩
theorem qmT(hK:X.K=g.K):qz X (.type "tuple") (rB1 g .tuple):=qbk qgP fun S ds d vs H Q hs rs h q=>by
 obtain⟨x,xs,rfl,e,h⟩:=qgb (q:=fun xs=>.ok (.tup xs)) h (fun _=>rfl) (fun n=>by match ds,n with | [],_=>rfl | [_,_],_=>rfl|_::_::_::_,_=>rfl);cases h;cases rs with
 |cons r rs=>
  cases rs;cases x with
  |lst ys=>
   cases e;obtain⟨a,us,rfl,h1,r1⟩:=r.lst;exact⟨a,us,rfl,.inl ⟨by rw [hK];exact h1,fun p hp=>q _ _ (qu hp) (qaM hs hp r1) (by simp)⟩⟩
  |tup ys=>
   cases e;have z:=r.strong (by intro _ z;cases z);obtain⟨a,us,rfl,h1,r1⟩:=r.tup;exact⟨a,us,rfl,.inr ⟨by rw [hK];exact h1,q _ _ (qf.refl _) z (by simp)⟩⟩
  |_=>cases e
theorem qpE(hK:X.K=g.K):qz X (.type "list") (rB1 g .list):=qbk qhB fun S ds d vs H Q hs rs h q=>by
 obtain⟨x,xs,rfl,e,h⟩:=qgb (q:=fun xs=>.ok (.lst xs)) h (fun _=>rfl) (fun n=>by match ds,n with | [],_=>rfl | [_,_],_=>rfl|_::_::_::_,_=>rfl);cases h;cases rs with
 |cons r rs=>
  cases rs;obtain⟨a,us,rfl,h1,r1⟩:=r.seq e;exact⟨a,us,rfl,by rw [hK];exact h1,fun p hp=>q _ _ (qu hp) (qas hs hp r1) fun _=>qbr (qf.refl _) hp r1⟩
theorem qie(hc:X.calm=true)(al:Bool):qz X (.builtin (if al then "all" else "any")) (fun xs H Q=>∃(l:Addr) (bs:List Bool),xs=[.ref l]∧SqL X.K H l (bs.map V.bl)∧Q (.bl (if al then bs.all id else bs.any id)) H):=by
 intro pins s σ H xs us Q I r h;obtain⟨l,bs,rfl,hl,q⟩:=h;obtain⟨u,rfl,ru⟩:=r.one;cases ru;obtain⟨its,rv,pl,hz⟩:=I.list hl;have e:=qox (A:=X.A) rv;subst e;have hlt:l<s.heap.objs.size:=by obtain⟨_,e,_⟩:=pl.isList;exact Heap.lt_size e
 have tr:TruthOf X.prog X.w X.A.in1 (fun i v=>(bs.map Value.bool).toArray[i]? = some v) (fun i=>(bs[i]?).getD al):=fun i v s' Q' E' hP hQ=>by
  have hv:(bs.map Value.bool)[i]? = some v:=by simpa using hP
  rw [List.getElem?_map]at hv;cases e:bs[i]? with
  |none=>rw [e]at hv;cases hv
  |some b=>
   rw [e]at hv;cases hv;simp only [e,Option.getD_some]at hQ;exact wpAny_truthy_bool hQ
 have wk:=Walks.list (prog:=X.prog) (w:=X.w) (A:=X.A.in1) (I.ok.hd hc) s.heap.objs.size l (Nat.ne_of_lt hlt) (bs.map Value.bool).toArray;cases al with
 |true=>
  refine call_all_walk (wpAny_pyIter_list pl.isList ?_);refine⟨s.heap.objs.size,[s.heap.objs.size,l],[s.heap.objs.size],_,_,_,_,rfl,wk,⟨⟨_,Heap.get?_push_size _ rfl,rfl,rfl⟩,pl.isList.push _⟩,tr,fun h' tk hk=>?_⟩;have e:((List.range (bs.map Value.bool).toArray.size).all fun i=>(bs[i]?).getD true)=bs.all id:=by
   rw [List.size_toArray,List.length_map];exact LSm.range_all bs
  rw [e];exact⟨.bl _,H,I.kept (LSm.kept_iter hk),rfl,q⟩
 |false=>
  refine call_any_walk (wpAny_pyIter_list pl.isList ?_);refine⟨s.heap.objs.size,[s.heap.objs.size,l],[s.heap.objs.size],_,_,_,_,rfl,wk,⟨⟨_,Heap.get?_push_size _ rfl,rfl,rfl⟩,pl.isList.push _⟩,tr,fun h' tk hk=>?_⟩;have e:((List.range (bs.map Value.bool).toArray.size).any fun i=>(bs[i]?).getD false)=bs.any id:=by
   rw [List.size_toArray,List.length_map,Bool.eq_iff_iff];simp only [List.any_eq_true,List.mem_range,id];constructor
   ·rintro⟨i,hi,e⟩;rw [List.getElem?_eq_getElem hi]at e;exact⟨_,List.getElem_mem hi,e⟩
   ·rintro⟨b,hb,e⟩;obtain⟨i,hi,rfl⟩:=List.getElem_of_mem hb;exact⟨i,hi,by rw [List.getElem?_eq_getElem hi];exact e⟩
  rw [e];exact⟨.bl _,H,I.kept (LSm.kept_iter hk),rfl,q⟩
theorem qgh(hK:X.K=g.K)(hc:X.calm=true)(al:Bool):qz X (.builtin (if al then "all" else "any")) (rB1 g (if al then .all else .any)):=qbk (qie hc al) fun S ds d vs H Q hs rs h q=>by
 obtain⟨xs,bs,rfl,e,rfl⟩:∃xs bs,ds=[.lst xs]∧bools? xs=some bs∧d=.bl (if al then bs.all id else bs.any id):=by
  cases al
  ·obtain⟨x,rfl,h'⟩:=qby (fun _ _=>rfl) h;obtain⟨xs,rfl,h'⟩:=qdx h';obtain⟨bs,e,h'⟩:=qcr h';cases h';exact⟨xs,bs,rfl,e,rfl⟩
  ·obtain⟨x,rfl,h'⟩:=qby (fun _ _=>rfl) h;obtain⟨xs,rfl,h'⟩:=qdx h';obtain⟨bs,e,h'⟩:=qcr h';cases h';exact⟨xs,bs,rfl,e,rfl⟩
 cases rs with
 |cons r rs=>
  cases rs;obtain⟨a,us,rfl,h1,r1⟩:=r.lst;have e2:=r1.bools e;subst e2;exact⟨a,bs,rfl,by rw [hK];exact h1,q _ _ (qf.refl _) (.bl _) (by cases al<;>simp)⟩
end
end EV
namespace TS
open PySem PyProof.Rows
structure Cmp(prog:Program)(w:World)(A:Around)(s:Shared)(κ:SortKind)(D:Keyed→Prop)(LT:Keyed→Keyed→Bool):Prop where
 lt:∀x y,D x→D y→∀Q:Bool→Shared→Prop,Q (LT x y) s→wpAny (model prog w) A (keyLt' κ x.1 y.1) Q (fun _ _=>False) s
 asym:∀x y,LT x y=true→LT y x=false
 neg:∀x y z,LT y x=false→LT z y=false→LT z x=false
section
variable{prog:Program}{w:World}{A:Around}{E:Value→Shared→Prop}{s:Shared}{κ:SortKind}{D:Keyed→Prop}{LT:Keyed→Keyed→Bool}
theorem qhX{arr:Array Keyed}{i:Nat}{x:Keyed}{Q:Keyed→SortSt→Prop}{st:SortSt}(hx:arr[i]? = some x)(h:Q x st):wpS (model prog w) A E s (elem' arr i) Q st:=by
 rw [elem'_eq,hx];exact wpS_pure h
theorem qsz(C:Cmp prog w A s κ D LT){x y:Keyed}(hx:D x)(hy:D y){Q:Option Bool→SortSt→Prop}{st:SortSt}(hk:kindOf st=κ)(h:Q (some (LT x y)) st):wpS (model prog w) A E s (lt' x y) Q st:=by
 rw [lt'_eq];refine wpS_bind (wpS_get ?_);rw [hk];refine wpS_bind (wpS_lift (wpAny_attempt (wpAny_mono (C.lt x y hx hy (fun b s'=>s'=s∧b=LT x y) ⟨rfl,rfl⟩) (fun b s' hb=>?_) fun _ _ z=>z.elim)));obtain⟨rfl,rfl⟩:=hb;exact⟨rfl,wpS_pure h⟩
end
structure Wo(LT:Keyed→Keyed→Bool):Prop where
 asym:∀x y,LT x y=true→LT y x=false
 neg:∀x y z,LT y x=false→LT z y=false→LT z x=false
section
variable{LT:Keyed→Keyed→Bool}
theorem Wo.irr(W:Wo LT)(x:Keyed):LT x x=false:=by
 cases h:LT x x with
 |false=>rfl
 |true=>have:=W.asym x x h;rw [h]at this;cases this
theorem Wo.lt_le(W:Wo LT){x y z:Keyed}(h1:LT x y=true)(h2:LT z y=false):LT x z=true:=by
 cases h:LT x z with
 |true=>rfl
 |false=>have:=W.neg y z x h2 h;rw [h1]at this;cases this
abbrev df:Keyed:=(Value.none,Value.none)
noncomputable def at'(a:Array Keyed)(i:Nat):Keyed:=a.getD i df
theorem qcZ{a:Array Keyed}{i:Nat}(h:i<a.size):a[i]? = some (at' a i):=by
 unfold at' Array.getD;rw [dif_pos h];exact Array.getElem?_eq_getElem h
theorem qrI{a:Array Keyed}{i:Nat}(h:i<a.size):at' a i∈a.toList:=by
 have:=qcZ h;rw [←Array.getElem?_toList]at this;exact List.mem_of_getElem? this
variable{a b out:Array Keyed}{ia ib:Nat}
end
section
variable{prog:Program}{w:World}{A:Around}{E:Value→Shared→Prop}{s:Shared}{κ:SortKind}{D:Keyed→Prop}{LT:Keyed→Keyed→Bool}
end
section
variable{LT:Keyed→Keyed→Bool}
variable{a b out:Array Keyed}{na nb:Nat}
end
section
variable{prog:Program}{w:World}{A:Around}{E:Value→Shared→Prop}{s:Shared}{κ:SortKind}{D:Keyed→Prop}{LT:Keyed→Keyed→Bool}
end
structure Rk(D:Keyed→Prop)(LT:Keyed→Keyed→Bool)(R:Keyed→Int):Prop where
 rk:∀x y,D x→D y→LT x y=decide (R x<R y)
structure SB(κ:SortKind)(p:Array (Nat×Nat×Nat))(a₁:Array Keyed)(lo:Nat)(st:SortSt):Prop where
 kd:kindOf st=κ
 fl:failedOf st=none
 pn:pendingOf st=p
 pm:(arrOf st).Perm a₁
 lw:∀i,i<lo→at' (arrOf st) i=at' a₁ i
noncomputable def Kr(R:Keyed→Int)(xs:Array Keyed)(i:Nat):Int:=R (at' xs i)
noncomputable def Seg(R:Keyed→Int)(xs:Array Keyed)(lo n:Nat):Prop:=∀i j,i≤j→j<n→Kr R xs (lo+i)≤Kr R xs (lo+j)
noncomputable def Dsc(R:Keyed→Int)(xs:Array Keyed)(lo n:Nat):Prop:=∀i j,i≤j→j<n→Kr R xs (lo+j)≤Kr R xs (lo+i)
theorem qcv{xs ys:Array Keyed}{i j:Nat}(h:xs[i]? = ys[j]?):at' xs i=at' ys j:=by
 unfold at';rw [Array.getD_eq_getD_getElem?,Array.getD_eq_getD_getElem?,h]
theorem qgj{xs:Array Keyed}{src d:Nat}(hs:src<xs.size)(hd:d≤src)(k:Nat) :
  at' (bubble xs src d) k=if k=src-d then at' xs src else if src-d<k∧k≤src then at' xs (k-1)else at' xs k:=by
 have e:=getElem?_bubble hs d hd k;by_cases h1:k=src-d
 ·rw [if_pos h1]at e ⊢;exact qcv e
 ·rw [if_neg h1]at e ⊢;by_cases h2:src-d<k∧k≤src
  ·rw [if_pos h2]at e ⊢;exact qcv e
  ·rw [if_neg h2]at e ⊢;exact qcv e
theorem qgp{xs:Array Keyed}{i j:Nat}(hj:j≤xs.size)(k:Nat) :
  at' (mirror xs i j ((j-i)/2)) k=if i≤k∧k<j then at' xs (i+j-1-k)else at' xs k:=by
 have e:=getElem?_mirror_all (i:=i) hj k;by_cases h1:i≤k∧k<j
 ·rw [if_pos h1]at e ⊢;exact qcv e
 ·rw [if_neg h1]at e ⊢;exact qcv e
section
variable{prog:Program}{w:World}{A:Around}{E:Value→Shared→Prop}{s:Shared}{κ:SortKind}{D:Keyed→Prop}{LT:Keyed→Keyed→Bool}{R:Keyed→Int}{p:Array (Nat×Nat×Nat)}{a₁:Array Keyed}{lo:Nat}
theorem qgm{xs:Array Keyed}{src d:Nat}(hs:src<xs.size)(hd:d≤src)(k:Nat) :
  Kr R (bubble xs src d) k=if k=src-d then Kr R xs src else if src-d<k∧k≤src then Kr R xs (k-1)else Kr R xs k:=by
 unfold Kr;rw [qgj hs hd];repeat' split
 all_goals rfl
theorem qdV{xs:Array Keyed}{i j:Nat}(hj:j≤xs.size)(k:Nat) :
  Kr R (mirror xs i j ((j-i)/2)) k=if i≤k∧k<j then Kr R xs (i+j-1-k)else Kr R xs k:=by
 unfold Kr;rw [qgp hj];split
 all_goals rfl
theorem qaH{xs:Array Keyed}{i j:Nat}(hj:j≤xs.size)(heq:∀k,i≤k→k<j→Kr R xs k=Kr R xs (j-1))(k:Nat) :
  Kr R (mirror xs i j ((j-i)/2)) k=Kr R xs k:=by
 rw [qdV hj];split
 ·rw [heq _ (by lia) (by lia),heq k (by lia) (by lia)]
 ·rfl
theorem SB.size{st:SortSt}(h:SB κ p a₁ lo st):(arrOf st).size=a₁.size:=h.pm.size_eq
theorem SB.dom{st:SortSt}(h:SB κ p a₁ lo st)(Da:∀x∈a₁.toList,D x){i:Nat}(hi:i<a₁.size):D (at' (arrOf st) i):=
 Da _ ((Array.perm_iff_toList_perm.mp h.pm).mem_iff.mp (qrI (by rw [h.size];exact hi)))
theorem SB.setArr{st:SortSt}(h:SB κ p a₁ lo st){xs:Array Keyed}(hp:xs.Perm (arrOf st))(hl:∀i,i<lo→at' xs i=at' (arrOf st) i):SB κ p a₁ lo (setArr st xs):=
 ⟨h.kd,h.fl,h.pn,hp.trans h.pm,fun i hi=>(hl i hi).trans (h.lw i hi)⟩
theorem SB.mir{st:SortSt}(h:SB κ p a₁ lo st){i j:Nat}(hi:lo≤i)(hj:j≤a₁.size):SB κ p a₁ lo (PyProof.Rows.setArr st (mirror (arrOf st) i j ((j-i)/2))):=
 h.setArr (mirror_perm _ _ _ _) fun k hk=>by
  rw [qgp (by rw [h.size];exact hj),if_neg (by lia)]
theorem qap{st:SortSt}{i j:Nat}{Q:Option Bool→SortSt→Prop}(C:Cmp prog w A s κ D LT)(K:Rk D LT R)(Da:∀x∈a₁.toList,D x)(hB:SB κ p a₁ lo st)(hi:i<a₁.size)(hj:j<a₁.size)
  (h:Q (some (decide (Kr R (arrOf st) i<Kr R (arrOf st) j))) st):wpS (model prog w) A E s (ltAt' i j) Q st:=by
 rw [ltAt'_eq];refine wpS_bind (wpS_get ?_);refine wpS_bind (qhX (qcZ (by rw [hB.size];exact hi)) ?_);refine wpS_bind (qhX (qcZ (by rw [hB.size];exact hj)) ?_);refine qsz C (hB.dom Da hi) (hB.dom Da hj) hB.kd ?_;rw [K.rk _ _ (hB.dom Da hi) (hB.dom Da hj)];exact h
structure Hf(R:Keyed→Int)(xs:Array Keyed)(lo k x l r:Nat):Prop where
 lr:l≤r
 rk:r≤k
 fu:r-l+x≤k
 low:∀i,lo≤i→i<lo+l→Kr R xs i≤Kr R xs (lo+k)
 upp:∀i,lo+r≤i→i<lo+k→Kr R xs (lo+k)<Kr R xs i
theorem Seg.at{xs:Array Keyed}{n:Nat}(S:Seg R xs lo n){i j:Nat}(a:lo≤i)(b:i≤j)(c:j<lo+n):Kr R xs i≤Kr R xs j:=by
 have z:=S (i-lo) (j-lo) (by lia) (by lia)
 rwa [Nat.add_sub_cancel' a,Nat.add_sub_cancel' (Nat.le_trans a b)]at z
theorem Hf.go{xs:Array Keyed}{k x l r:Nat}(h:Hf R xs lo k x l r)(S:Seg R xs lo k)(hl:l<r) :
  (Kr R xs (lo+k)<Kr R xs (lo+(l+r)/2)→Hf R xs lo k (x+1) l ((l+r)/2))∧(¬ Kr R xs (lo+k)<Kr R xs (lo+(l+r)/2)→Hf R xs lo k (x+1) ((l+r)/2+1) r):=by
 have:=h.rk;have:=h.fu;refine⟨fun z=>⟨by lia,by lia,by lia,h.low,fun i a b=>Int.lt_of_lt_of_le z (S.at (by lia) a (by lia))⟩,fun z=>⟨by lia,h.rk,by lia,fun i a b=>?_,h.upp⟩⟩;have:=S.at (i:=i) (j:=lo+(l+r)/2) a (by lia) (by lia);lia
theorem Hf.put{xs:Array Keyed}{k x l:Nat}(h:Hf R xs lo k x l l)(hk:lo+k<xs.size)(S:Seg R xs lo k) :
  Seg R (bubble xs (lo+k) (lo+k-(lo+l))) lo (k+1)∧∀i,i<lo→at' (bubble xs (lo+k) (lo+k-(lo+l))) i=at' xs i:=by
 have:=h.rk;have e:lo+k-(lo+k-(lo+l))=lo+l:=by lia
 refine⟨fun i j hij hj=>?_,fun i hi=>by rw [qgj hk (by lia),if_neg (by lia),if_neg (by lia)]⟩;rw [qgm hk (by lia),qgm hk (by lia),e];by_cases ai:lo+i=lo+l<;>by_cases aj:lo+j=lo+l<;>by_cases bi:lo+l<lo+i∧lo+i≤lo+k<;>by_cases bj:lo+l<lo+j∧lo+j≤lo+k<;>simp only [ai,aj,bi,bj,if_true,if_false,and_self]<;>first
  | (exfalso;lia)
  |lia
  |exact h.low _ (by lia) (by lia)
  |exact Int.le_of_lt (h.upp _ (by lia) (by lia))
  |exact S.at (by lia) (by lia) (by lia)
theorem qij(C:Cmp prog w A s κ D LT)(K:Rk D LT R)(Da:∀x∈a₁.toList,D x){st:SortSt}{n ok:Nat}{Q:Bool→SortSt→Prop}(hn:lo+n≤a₁.size)(hok:ok≤n)(hB:SB κ p a₁ lo st)(hs:Seg R (arrOf st) lo ok)
  (h:∀st',SB κ p a₁ lo st'→Seg R (arrOf st') lo n→Q true st'):wpS (model prog w) A E s (binarySort' lo n ok) Q st:=by
 rw [binarySort'_eq];have seg1:Seg R (arrOf st) lo (min (max ok 1) n):=fun i j a b=>by
  by_cases z:ok=0
  ·rw [show i=j by lia];exact Int.le_refl _
  ·exact hs i j a (by lia)
 refine wpS_bind (wpS_mono (wpS_forRange (fun k c t=>c=(none,())∧SB κ p a₁ lo t∧Seg R (arrOf t) lo (min k n)) (Q:=fun c t=>c=(none,())∧SB κ p a₁ lo t∧Seg R (arrOf t) lo n) ?_ ?_ ⟨rfl,hB,seg1⟩) fun c t ⟨e,b,z⟩=>by rw [e];exact wpS_pure (h t b z))
 ·rintro k c t k1 k2 ⟨rfl,B,S⟩;rw [Nat.min_eq_left (Nat.le_of_lt k2)]at S;have kz:lo+k<a₁.size:=by lia
  have kz':lo+k<(arrOf t).size:=by rw [B.size];exact kz
  refine wpS_bind (wpS_mono (wpS_forRange (fun x c u=>u=t∧∃l r,c=(none,l,r)∧Hf R (arrOf t) lo k x l r) (Q:=fun c u=>u=t∧∃x l,c=(none,l,l)∧Hf R (arrOf t) lo k x l l) ?_ ?_ ⟨rfl,0,k,rfl,Nat.zero_le _,Nat.le_refl _,by lia,fun i a b=>by lia,fun i a b=>by lia⟩) ?_)
  ·rintro x c u _ x2 ⟨rfl,l,r,rfl,f⟩;dsimp only;have:=f.lr;by_cases z:l ≥ r
   ·rw [if_pos z];obtain rfl:l=r:=by lia
    exact wpS_pure ⟨rfl,x,l,rfl,f⟩
   rw [if_neg z];have:=f.rk;refine wpS_bind (qap C K Da B kz (by lia) ?_);obtain⟨g1,g2⟩:=f.go S (by lia);cases q:decide (Kr R (arrOf u) (lo+k)<Kr R (arrOf u) (lo+(l+r)/2))with
   |true=>exact wpS_pure ⟨rfl,_,_,rfl,g1 (of_decide_eq_true q)⟩
   |false=>exact wpS_pure ⟨rfl,_,_,rfl,g2 (of_decide_eq_false q)⟩
  ·rintro c u ⟨rfl,l,r,rfl,f⟩;have:=f.lr;have:=f.fu;obtain rfl:l=r:=by lia
   exact⟨rfl,_,l,rfl,f⟩
  ·rintro c u ⟨rfl,x,l,rfl,f⟩;obtain⟨g1,g2⟩:=f.put kz' S;dsimp only;rw [moveDown'_eq];refine wpS_bind (wpS_modify (wpS_pure ⟨rfl,B.setArr (bubble_perm _ _ _) g2,?_⟩));rw [Nat.min_eq_left k2];exact g1
 ·rintro c t ⟨e,b,z⟩;rw [show min (max (max ok 1) n) n=n by lia]at z;exact⟨e,b,z⟩
end
section
variable{prog:Program}{w:World}{A:Around}{E:Value→Shared→Prop}{s:Shared}{κ:SortKind}{D:Keyed→Prop}{LT:Keyed→Keyed→Bool}{R:Keyed→Int}{p:Array (Nat×Nat×Nat)}{a₁:Array Keyed}{lo:Nat}{xs:Array Keyed}
theorem Seg.one:Seg R xs lo 1:=fun i j a b=>by rw [show i=j by lia];exact Int.le_refl _
theorem Seg.more{n:Nat}(S:Seg R xs lo n)(z:1≤n→Kr R xs (lo+n-1)≤Kr R xs (lo+n)):Seg R xs lo (n+1):=fun i j a b=>by
 by_cases c:j=n
 ·subst c;by_cases d:i=j
  ·rw [d];exact Int.le_refl _
  ·have y:=S i (j-1) (by lia) (by lia);rw [show lo+(j-1)=lo+j-1 by lia]at y;exact Int.le_trans y (z (by lia))
 ·exact S i j a (by lia)
theorem Dsc.one:Dsc R xs lo 1:=fun i j a b=>by rw [show i=j by lia];exact Int.le_refl _
theorem Dsc.more{n:Nat}(S:Dsc R xs lo n)(z:1≤n→Kr R xs (lo+n)≤Kr R xs (lo+n-1)):Dsc R xs lo (n+1):=fun i j a b=>by
 by_cases c:j=n
 ·subst c;by_cases d:i=j
  ·rw [d];exact Int.le_refl _
  ·have y:=S i (j-1) (by lia) (by lia);rw [show lo+(j-1)=lo+j-1 by lia]at y;exact Int.le_trans (z (by lia)) y
 ·exact S i j a (by lia)
theorem Dsc.alike{ys:Array Keyed}{n:Nat}(S:Dsc R xs lo n)(e:∀k,Kr R ys k=Kr R xs k):Dsc R ys lo n:=fun i j a b=>by rw [e,e];exact S i j a b
theorem qcu{st:SortSt}{a nrem:Nat}{β:Type}{mk:Nat→β}{Q:β→SortSt→Prop}(hn:lo+nrem≤a₁.size)(ha:1≤a)(han:a≤nrem)(S0:Seg R (arrOf st) lo a)
  {body:Nat→β→StateT SortSt Sem (ForInStep β)}
  (hb:∀x n (Q':ForInStep β→SortSt→Prop),lo+n<a₁.size→1≤n→(Kr R (arrOf st) (lo+n)<Kr R (arrOf st) (lo+n-1)→Q' (.done (mk n)) st)→(¬ Kr R (arrOf st) (lo+n)<Kr R (arrOf st) (lo+n-1)→Q' (.yield (mk (n+1))) st)→wpS (model prog w) A E s (body x (mk n)) Q' st)
  (h:∀n,a≤n→n≤nrem→Seg R (arrOf st) lo n→(n≠nrem→Kr R (arrOf st) (lo+n)<Kr R (arrOf st) (lo+n-1))→Q (mk n) st) :
  wpS (model prog w) A E s (forIn [a:nrem] (mk a) body) Q st:=
 wpS_forRange (fun x c t=>t=st∧c=mk x∧Seg R (arrOf st) lo x) (fun x c t x1 x2 ⟨e1,e2,S⟩=>by
   subst e1 e2;exact hb x x _ (by lia) (by lia) (fun z=>h x x1 (by lia) S fun _=>z) fun z=>⟨rfl,rfl,S.more fun _=>by lia⟩)
  (fun c t ⟨e1,e2,S⟩=>by
   subst e1 e2;rw [Nat.max_eq_right han]at S ⊢;exact h nrem han (Nat.le_refl _) S fun z=>absurd rfl z) ⟨rfl,rfl,S0⟩
theorem Dsc.turn{n:Nat}(S:Dsc R xs lo n)(hz:lo+n≤xs.size):Seg R (mirror xs lo (lo+n) ((lo+n-lo)/2)) lo n:=fun i j a b=>by
 have y:=S (n-1-j) (n-1-i) (by lia) (by lia);rw [show lo+(n-1-j)=lo+(lo+n)-1-(lo+j)by lia,show lo+(n-1-i)=lo+(lo+n)-1-(lo+i)by lia]at y
 rwa [qdV hz,qdV hz,if_pos ⟨by lia,by lia⟩,if_pos ⟨by lia,by lia⟩]
noncomputable def Flat(R:Keyed→Int)(xs:Array Keyed)(lo m neq:Nat):Prop:=∀i,lo+m-(neq+1)≤i→i<lo+m→Kr R xs i=Kr R xs (lo+m-1)
theorem Flat.zero{m:Nat}:Flat R xs lo m 0:=fun i a b=>by rw [show i=lo+m-1 by lia]
theorem Flat.more{m neq:Nat}(f:Flat R xs lo m neq)(z:Kr R xs (lo+m)=Kr R xs (lo+m-1)):Flat R xs lo (m+1) (neq+1):=fun i a b=>by
 rw [show lo+(m+1)-1=lo+m by lia];by_cases c:i=lo+m
 ·rw [c]
 ·rw [z];exact f i (by lia) (by lia)
theorem qge{st:SortSt}{n nrem:Nat}{β:Type}{mk:Nat→Nat→β}{Q:β→SortSt→Prop}(hn:lo+nrem≤a₁.size)(h1:1≤n)(hnn:n≤nrem)(B0:SB κ p a₁ lo st)(S0:Dsc R (arrOf st) lo n)
  {body:Nat→β→StateT SortSt Sem (ForInStep β)}
  (hb:∀x n neq t (Q':ForInStep β→SortSt→Prop),SB κ p a₁ lo t→lo+n<a₁.size→1≤n →
   (Kr R (arrOf t) (lo+n)<Kr R (arrOf t) (lo+n-1)→neq>0→Q' (.yield (mk (n+1) 0)) (setArr t (mirror (arrOf t) (lo+n-(neq+1)) (lo+n) ((lo+n-(lo+n-(neq+1)))/2)))) →
   (Kr R (arrOf t) (lo+n)<Kr R (arrOf t) (lo+n-1)→¬ neq>0→Q' (.yield (mk (n+1) 0)) t) →
   (Kr R (arrOf t) (lo+n-1)<Kr R (arrOf t) (lo+n)→Q' (.done (mk n neq)) t) →
   (Kr R (arrOf t) (lo+n)=Kr R (arrOf t) (lo+n-1)→Q' (.yield (mk (n+1) (neq+1))) t) →
   wpS (model prog w) A E s (body x (mk n neq)) Q' t)
  (h:∀m neq t,SB κ p a₁ lo t→n≤m→m≤nrem→Dsc R (arrOf t) lo m→neq+1≤m→Flat R (arrOf t) lo m neq→Q (mk m neq) t) :
  wpS (model prog w) A E s (forIn [n:nrem] (mk n 0) body) Q st:=
 wpS_forRange (fun x c t=>∃neq,c=mk x neq∧SB κ p a₁ lo t∧Dsc R (arrOf t) lo x∧neq+1≤x∧Flat R (arrOf t) lo x neq) (fun x c t x1 x2 ⟨neq,e,B,S,q,f⟩=>by
   subst e;have hz:lo+x≤(arrOf t).size:=by rw [B.size];lia
   refine hb x x neq t _ B (by lia) (by lia) (fun z _=>?_) (fun z _=>?_) (fun _=>h x neq t B x1 (by lia) S q f) fun z=>⟨neq+1,rfl,B,S.more fun _=>Int.le_of_eq z,by lia,f.more z⟩
   ·exact⟨0,rfl,B.mir (by lia) (by lia),(S.more fun _=>Int.le_of_lt z).alike (qaH hz f),by lia,Flat.zero⟩
   ·exact⟨0,rfl,B,S.more fun _=>Int.le_of_lt z,by lia,Flat.zero⟩)
  (fun c t ⟨neq,e,B,S,q,f⟩=>by
   subst e;rw [Nat.max_eq_right hnn]at S q f ⊢;exact h nrem neq t B hnn (Nat.le_refl _) S q f) ⟨0,rfl,B0,S0,by lia,Flat.zero⟩
theorem qjN(C:Cmp prog w A s κ D LT)(K:Rk D LT R)(Da:∀x∈a₁.toList,D x){st:SortSt}{nrem:Nat}{Q:Option Nat→SortSt→Prop}(hn:lo+nrem≤a₁.size)(h1:1≤nrem)(hB:SB κ p a₁ lo st)
  (h:∀m st',SB κ p a₁ lo st'→1≤m→m≤nrem→Seg R (arrOf st') lo m→Q (some m) st') :
  wpS (model prog w) A E s (countRun' lo nrem) Q st:=by
 rw [countRun'_eq];refine wpS_bind (qcu (R:=R) (mk:=fun n=>(none,n)) hn (Nat.le_refl 1) h1 Seg.one ?_ ?_)
 ·intro x n Q' hl n1 q1 q2;dsimp only;refine wpS_bind (qap C K Da (hB) hl (by lia) ?_);cases z:decide (Kr R (arrOf st) (lo+n)<Kr R (arrOf st) (lo+n-1))with
  |true=>exact wpS_pure (q1 (of_decide_eq_true z))
  |false=>exact wpS_pure (q2 (of_decide_eq_false z))
 intro n n1 n2 S z;dsimp only;by_cases e:(n==nrem)=true
 ·rw [if_pos e];exact wpS_pure (h n st hB n1 n2 S)
 rw [if_neg e];have e':n≠nrem:=by simpa using e
 have lt:=z e';have hz:lo+n≤(arrOf st).size:=by rw [hB.size];lia
 by_cases g:n>1
 ·rw [if_pos g];refine wpS_bind (qap C K Da hB (by lia) (by lia) ?_);cases y:decide (Kr R (arrOf st) lo<Kr R (arrOf st) (lo+n-1))with
  |true=>exact wpS_pure (h n st hB n1 n2 S)
  |false=>
   have y':=of_decide_eq_false y;have f:∀k,lo≤k→k<lo+n→Kr R (arrOf st) k=Kr R (arrOf st) (lo+n-1):=fun k a b=>by
    have b1:=S.at (i:=lo) (j:=k) (Nat.le_refl _) a b;have b2:=S.at (i:=k) (j:=lo+n-1) a (by lia) (by lia);lia
   dsimp only;rw [if_neg Bool.false_ne_true];refine wpS_bind (wpS_reverse ?_);have dB:SB κ p a₁ lo (setArr st (mirror (arrOf st) lo (lo+n) ((lo+n-lo)/2))):=hB.mir (Nat.le_refl _) (by lia);have dS:Dsc R (arrOf (setArr st (mirror (arrOf st) lo (lo+n) ((lo+n-lo)/2)))) lo (n+1):=Dsc.alike (xs:=arrOf st) (Dsc.more (fun i j a b=>by rw [f (lo+i) (by lia) (by lia),f (lo+j) (by lia) (by lia)];exact Int.le_refl _) fun _=>Int.le_of_lt lt) (qaH hz f);refine wpS_bind (wpS_lift (wpAny_rule ⟨rfl,?_⟩));refine wpS_bind (qge (mk:=fun n q=>(none,n,q)) hn (by lia) (by lia) (dB) dS ?_ ?_)
   ·intro x n neq t Q' tB hl n1 q1 q2 q3 q4;dsimp only;refine wpS_bind (qap C K Da tB hl (by lia) ?_);cases z:decide (Kr R (arrOf t) (lo+n)<Kr R (arrOf t) (lo+n-1))with
    |true=>
     by_cases y:neq>0
     ·dsimp only;rw [if_pos rfl,if_pos y];exact wpS_bind (wpS_reverse (wpS_pure (q1 (of_decide_eq_true z) y)))
     ·dsimp only;rw [if_pos rfl,if_neg y];exact wpS_pure (q2 (of_decide_eq_true z) y)
    |false=>
     have z':=of_decide_eq_false z;refine wpS_bind (qap C K Da tB (by lia) hl ?_);cases y:decide (Kr R (arrOf t) (lo+n-1)<Kr R (arrOf t) (lo+n))with
     |true=>exact wpS_pure (q3 (of_decide_eq_true y))
     |false=>
      have y':=of_decide_eq_false y;exact wpS_pure (q4 (by lia))
   ·intro m neq t tB m1 m2 tS nm f;have hz:lo+m≤(arrOf t).size:=by rw [tB.size];lia
    dsimp only;by_cases y:neq>0
    ·rw [if_pos y];refine wpS_bind (wpS_reverse ?_);have MB:SB κ p a₁ lo (setArr t (mirror (arrOf t) (lo+m-(neq+1)) (lo+m) ((lo+m-(lo+m-(neq+1)))/2))):=tB.mir (by lia) (by lia);have MS:Dsc R (arrOf (setArr t (mirror (arrOf t) (lo+m-(neq+1)) (lo+m) ((lo+m-(lo+m-(neq+1)))/2)))) lo m:=tS.alike (qaH hz f);refine wpS_bind (wpS_reverse ?_);have TB:SB κ p a₁ lo (setArr (setArr t (mirror (arrOf t) (lo+m-(neq+1)) (lo+m) ((lo+m-(lo+m-(neq+1)))/2))) (mirror (arrOf (setArr t (mirror (arrOf t) (lo+m-(neq+1)) (lo+m) ((lo+m-(lo+m-(neq+1)))/2)))) lo (lo+m) ((lo+m-lo)/2))):=(MB).mir (Nat.le_refl _) (by lia);refine wpS_bind (qcu (R:=R) (mk:=fun n=>(none,n)) hn (by lia) m2 (Dsc.turn (MS) (by show lo+m≤(arrOf (setArr t (mirror (arrOf t) (lo+m-(neq+1)) (lo+m) ((lo+m-(lo+m-(neq+1)))/2)))).size;rw [(MB).size];lia)) ?_ ?_)
     ·intro x n Q' hl n1 q1 q2;dsimp only;refine wpS_bind (qap C K Da (TB) hl (by lia) ?_);cases z:decide (Kr R (arrOf (setArr (setArr t (mirror (arrOf t) (lo+m-(neq+1)) (lo+m) ((lo+m-(lo+m-(neq+1)))/2))) (mirror (arrOf (setArr t (mirror (arrOf t) (lo+m-(neq+1)) (lo+m) ((lo+m-(lo+m-(neq+1)))/2)))) lo (lo+m) ((lo+m-lo)/2)))) (lo+n)<Kr R (arrOf (setArr (setArr t (mirror (arrOf t) (lo+m-(neq+1)) (lo+m) ((lo+m-(lo+m-(neq+1)))/2))) (mirror (arrOf (setArr t (mirror (arrOf t) (lo+m-(neq+1)) (lo+m) ((lo+m-(lo+m-(neq+1)))/2)))) lo (lo+m) ((lo+m-lo)/2)))) (lo+n-1))with
      |true=>exact wpS_pure (q1 (of_decide_eq_true z))
      |false=>exact wpS_pure (q2 (of_decide_eq_false z))
     ·intro j j1 j2 j3 _;exact wpS_pure (h j _ TB (by lia) j2 j3)
    ·rw [if_neg y];refine wpS_bind (wpS_reverse ?_);have TB:SB κ p a₁ lo (setArr t (mirror (arrOf t) lo (lo+m) ((lo+m-lo)/2))):=(tB).mir (Nat.le_refl _) (by lia);refine wpS_bind (qcu (R:=R) (mk:=fun n=>(none,n)) hn (by lia) m2 (Dsc.turn (tS) (by show lo+m≤(arrOf t).size;rw [(tB).size];lia)) ?_ ?_)
     ·intro x n Q' hl n1 q1 q2;dsimp only;refine wpS_bind (qap C K Da (TB) hl (by lia) ?_);cases z:decide (Kr R (arrOf (setArr t (mirror (arrOf t) lo (lo+m) ((lo+m-lo)/2)))) (lo+n)<Kr R (arrOf (setArr t (mirror (arrOf t) lo (lo+m) ((lo+m-lo)/2)))) (lo+n-1))with
      |true=>exact wpS_pure (q1 (of_decide_eq_true z))
      |false=>exact wpS_pure (q2 (of_decide_eq_false z))
     ·intro j j1 j2 j3 _;exact wpS_pure (h j _ TB (by lia) j2 j3)
 ·rw [if_neg g];obtain rfl:n=1:=by lia
  have dS:Dsc R (arrOf st) lo (1+1):=Dsc.one.more fun _=>Int.le_of_lt lt
  refine wpS_bind (wpS_lift (wpAny_rule ⟨rfl,?_⟩));refine wpS_bind (qge (mk:=fun n q=>(none,n,q)) hn (by lia) (by lia) (hB) dS ?_ ?_)
  ·intro x n neq t Q' tB hl n1 q1 q2 q3 q4;dsimp only;refine wpS_bind (qap C K Da tB hl (by lia) ?_);cases z:decide (Kr R (arrOf t) (lo+n)<Kr R (arrOf t) (lo+n-1))with
   |true=>
    by_cases y:neq>0
    ·dsimp only;rw [if_pos rfl,if_pos y];exact wpS_bind (wpS_reverse (wpS_pure (q1 (of_decide_eq_true z) y)))
    ·dsimp only;rw [if_pos rfl,if_neg y];exact wpS_pure (q2 (of_decide_eq_true z) y)
   |false=>
    have z':=of_decide_eq_false z;refine wpS_bind (qap C K Da tB (by lia) hl ?_);cases y:decide (Kr R (arrOf t) (lo+n-1)<Kr R (arrOf t) (lo+n))with
    |true=>exact wpS_pure (q3 (of_decide_eq_true y))
    |false=>
     have y':=of_decide_eq_false y;exact wpS_pure (q4 (by lia))
  ·intro m neq t tB m1 m2 tS nm f;have hz:lo+m≤(arrOf t).size:=by rw [tB.size];lia
   dsimp only;by_cases y:neq>0
   ·rw [if_pos y];refine wpS_bind (wpS_reverse ?_);have MB:SB κ p a₁ lo (setArr t (mirror (arrOf t) (lo+m-(neq+1)) (lo+m) ((lo+m-(lo+m-(neq+1)))/2))):=tB.mir (by lia) (by lia);have MS:Dsc R (arrOf (setArr t (mirror (arrOf t) (lo+m-(neq+1)) (lo+m) ((lo+m-(lo+m-(neq+1)))/2)))) lo m:=tS.alike (qaH hz f);refine wpS_bind (wpS_reverse ?_);have TB:SB κ p a₁ lo (setArr (setArr t (mirror (arrOf t) (lo+m-(neq+1)) (lo+m) ((lo+m-(lo+m-(neq+1)))/2))) (mirror (arrOf (setArr t (mirror (arrOf t) (lo+m-(neq+1)) (lo+m) ((lo+m-(lo+m-(neq+1)))/2)))) lo (lo+m) ((lo+m-lo)/2))):=(MB).mir (Nat.le_refl _) (by lia);refine wpS_bind (qcu (R:=R) (mk:=fun n=>(none,n)) hn (by lia) m2 (Dsc.turn (MS) (by show lo+m≤(arrOf (setArr t (mirror (arrOf t) (lo+m-(neq+1)) (lo+m) ((lo+m-(lo+m-(neq+1)))/2)))).size;rw [(MB).size];lia)) ?_ ?_)
    ·intro x n Q' hl n1 q1 q2;dsimp only;refine wpS_bind (qap C K Da (TB) hl (by lia) ?_);cases z:decide (Kr R (arrOf (setArr (setArr t (mirror (arrOf t) (lo+m-(neq+1)) (lo+m) ((lo+m-(lo+m-(neq+1)))/2))) (mirror (arrOf (setArr t (mirror (arrOf t) (lo+m-(neq+1)) (lo+m) ((lo+m-(lo+m-(neq+1)))/2)))) lo (lo+m) ((lo+m-lo)/2)))) (lo+n)<Kr R (arrOf (setArr (setArr t (mirror (arrOf t) (lo+m-(neq+1)) (lo+m) ((lo+m-(lo+m-(neq+1)))/2))) (mirror (arrOf (setArr t (mirror (arrOf t) (lo+m-(neq+1)) (lo+m) ((lo+m-(lo+m-(neq+1)))/2)))) lo (lo+m) ((lo+m-lo)/2)))) (lo+n-1))with
     |true=>exact wpS_pure (q1 (of_decide_eq_true z))
     |false=>exact wpS_pure (q2 (of_decide_eq_false z))
    ·intro j j1 j2 j3 _;exact wpS_pure (h j _ TB (by lia) j2 j3)
   ·rw [if_neg y];refine wpS_bind (wpS_reverse ?_);have TB:SB κ p a₁ lo (setArr t (mirror (arrOf t) lo (lo+m) ((lo+m-lo)/2))):=(tB).mir (Nat.le_refl _) (by lia);refine wpS_bind (qcu (R:=R) (mk:=fun n=>(none,n)) hn (by lia) m2 (Dsc.turn (tS) (by show lo+m≤(arrOf t).size;rw [(tB).size];lia)) ?_ ?_)
    ·intro x n Q' hl n1 q1 q2;dsimp only;refine wpS_bind (qap C K Da (TB) hl (by lia) ?_);cases z:decide (Kr R (arrOf (setArr t (mirror (arrOf t) lo (lo+m) ((lo+m-lo)/2)))) (lo+n)<Kr R (arrOf (setArr t (mirror (arrOf t) lo (lo+m) ((lo+m-lo)/2)))) (lo+n-1))with
     |true=>exact wpS_pure (q1 (of_decide_eq_true z))
     |false=>exact wpS_pure (q2 (of_decide_eq_false z))
    ·intro j j1 j2 j3 _;exact wpS_pure (h j _ TB (by lia) j2 j3)
end
section
variable{prog:Program}{w:World}{A:Around}{E:Value→Shared→Prop}{s:Shared}{κ:SortKind}{D:Keyed→Prop}{LT:Keyed→Keyed→Bool}{R:Keyed→Int}{a₁:Array Keyed}
structure Rdy(R:Keyed→Int)(a₁:Array Keyed)(st:SortSt):Prop where
 pm:(arrOf st).Perm a₁
 fl:failedOf st=none
 sg:Seg R (arrOf st) 0 a₁.size
 pn:(pendingOf st).size≤1
theorem SB.rdy{st:SortSt}(B:SB κ #[] a₁ 0 st)(S:Seg R (arrOf st) 0 a₁.size):Rdy R a₁ (setPending st ((pendingOf st).push (0,a₁.size,0))):=
 ⟨B.pm,B.fl,S,by show ((pendingOf st).push _).size≤1;rw [B.pn];exact Nat.le_refl 1⟩
theorem qgL(C:Cmp prog w A s κ D LT)(K:Rk D LT R)(Da:∀x∈a₁.toList,D x){st:SortSt}{Q:Unit→SortSt→Prop}(hk:kindOf st=κ)(hf:failedOf st=none)(hp:pendingOf st = #[])(ha:arrOf st=a₁)(h2:2≤a₁.size)(h64:a₁.size<64)
  (h:∀st',(arrOf st').Perm a₁→failedOf st'=none→Seg R (arrOf st') 0 a₁.size→Q () st'):wpS (model prog w) A E s sortRuns' Q st:=by
 have B0:SB κ #[] a₁ 0 st:=⟨hk,hf,hp,by rw [ha],fun _ _=>by rw [ha]⟩
 rw [sortRuns'_eq];refine wpS_bind (wpS_get ?_);dsimp only;rw [ha];have mr:minRun' a₁.size a₁.size 0=a₁.size:=by
  cases e:a₁.size with
  |zero=>lia
  |succ f=>rw [minRun'_succ,if_pos (by lia),Nat.add_zero]
 rw [mr];refine wpS_bind (wpS_mono (wpS_forRange
  (I:=fun x c st'=>(c=(none,0)∧x=0∧SB κ #[] a₁ 0 st')∨(c=(none,a₁.size)∧Rdy R a₁ st'))
  (Q:=fun c st'=>c=(none,a₁.size)∧Rdy R a₁ st') ?step ?fin (.inl ⟨rfl,rfl,B0⟩)) ?post)
 case fin=>
  rintro c st' (⟨_,hx,_⟩|q)
  ·lia
  ·exact q
 case step=>
  rintro x c st' _ hx (⟨rfl,rfl,B⟩|⟨rfl,q⟩)
  ·dsimp only;rw [if_neg (by lia)];refine wpS_bind (qjN C K Da (by lia) (by lia) B fun m st2 B2 m1 m2 S2=>?_);dsimp only;by_cases e3:m<a₁.size
   ·rw [if_pos e3];refine wpS_bind (wpS_lift (wpAny_rule ⟨rfl,?_⟩));refine wpS_bind (qij C K Da (by lia) (by lia) B2 S2 fun st3 B3 S3=>?_);simp only [Bool.not_true,Bool.false_eq_true,if_false];refine wpS_bind (wpS_get ?_);rw [show (pendingOf st3).back? = none by rw [B3.pn];rfl];dsimp only;have e:min (a₁.size-0) a₁.size=a₁.size:=by lia
    rw [e]at S3 ⊢;exact wpS_bind (wpS_modify (wpS_pure (.inr ⟨by rw [Nat.zero_add],B3.rdy S3⟩)))
   ·rw [if_neg e3];have e:m=a₁.size:=by lia
    subst e;refine wpS_bind (wpS_get ?_);rw [show (pendingOf st2).back? = none by rw [B2.pn];rfl];dsimp only;exact wpS_bind (wpS_modify (wpS_pure (.inr ⟨by rw [Nat.zero_add],B2.rdy S2⟩)))
  ·dsimp only;rw [if_pos (by lia)];exact wpS_pure ⟨rfl,q⟩
 case post=>
  rintro c st' ⟨rfl,H⟩;dsimp only;refine wpS_bind (wpS_mono (wpS_forRange (I:=fun x c st''=>c=(none,())∧Rdy R a₁ st'')
   (Q:=fun c st''=>c=(none,())∧Rdy R a₁ st'') ?_ (fun _ _ q=>q) ⟨rfl,H⟩) ?_)
  ·rintro x c st3 _ hx ⟨rfl,H3⟩;refine wpS_bind (wpS_get ?_);rw [if_pos H3.pn];exact wpS_pure ⟨rfl,H3⟩
  ·rintro c st3 ⟨rfl,H3⟩;exact wpS_pure (h st3 H3.pm H3.fl H3.sg)
end
theorem qgu{α:Type}{p q:α→Bool}{a:α}:∀{l:List α},(∀x∈l,p x=true→q x=true)→a∈l→p a=false→q a=true→l.countP p<l.countP q
 | [],_,h,_,_=>nomatch h
 |x::l,hi,h,h1,h2=>by
  rw [List.countP_cons,List.countP_cons];have le:=List.countP_mono_left (l:=l) (p:=p) (q:=q) fun y hy=>hi y (List.mem_cons_of_mem _ hy)
  rcases List.mem_cons.mp h with e|h
  ·subst e;rw [h1,h2];simp only [Bool.false_eq_true,if_false,if_true];lia
  ·have:=qgu (fun y hy=>hi y (List.mem_cons_of_mem _ hy)) h h1 h2;have:=hi x List.mem_cons_self;cases e:p x with
   |true=>rw [this e];simp only [if_true];lia
   |false=>simp only [Bool.false_eq_true,if_false];split<;>lia
noncomputable def qfw(LT:Keyed→Keyed→Bool)(l:List Keyed)(x:Keyed):Int:=(l.countP fun z=>LT z x:Nat)
theorem Wo.rank{LT:Keyed→Keyed→Bool}(W:Wo LT)(l:List Keyed):Rk (·∈l) LT (qfw LT l):=⟨fun x y hx hy=>by
 unfold qfw;cases e:LT x y with
 |true=>
  have:=qgu (p:=fun z=>LT z x) (q:=fun z=>LT z y) (a:=x) (fun z _ q=>W.lt_le (x:=z) (y:=x) (z:=y) q (W.asym x y e)) hx (W.irr x) e;exact(decide_eq_true (by lia)).symm
 |false=>
  have:=List.countP_mono_left (l:=l) (p:=fun z=>LT z y) (q:=fun z=>LT z x) fun z _ q=>W.lt_le (x:=z) (y:=y) (z:=x) q e
  exact(decide_eq_false (by lia)).symm⟩
noncomputable def ltL:List Int→List Int→Bool
 | [],[]=>false
 | [],_::_=>true
 |_::_,[]=>false
 |a::x,b::y=>if a=b then ltL x y else decide (a<b)
theorem qcj:∀{x y:List Int},ltL x y=true→ltL y x=false
 | [],[],h=>nomatch h
 | [],_::_,_=>rfl
 |_::_,[],h=>nomatch h
 |a::x,b::y,h=>by
  unfold ltL at h ⊢;by_cases e:a=b
  ·rw [if_pos e]at h;rw [if_pos e.symm];exact qcj h
  ·rw [if_neg e]at h;have:=of_decide_eq_true h;rw [if_neg (fun z=>e z.symm)];exact decide_eq_false (by lia)
theorem qdd:∀{x y z:List Int},ltL y x=false→ltL z y=false→ltL z x=false
 | [],_,[],_,_=>rfl
 |_::_,[],[],h,_=>nomatch h
 |_::_,_::_,[],_,h=>nomatch h
 | [],_,_::_,_,_=>rfl
 |_::_,[],_::_,h,_=>nomatch h
 |a::x,b::y,c::z,h1,h2=>by
  unfold ltL at h1 h2 ⊢;by_cases e1:b=a
  ·rw [if_pos e1]at h1;by_cases e2:c=b
   ·rw [if_pos e2]at h2;rw [if_pos (e2.trans e1)];exact qdd h1 h2
   ·rw [if_neg e2]at h2;have:=of_decide_eq_false h2;rw [if_neg (fun q=>e2 (q.trans e1.symm))];exact decide_eq_false (by lia)
  ·rw [if_neg e1]at h1;have q1:=of_decide_eq_false h1;by_cases e2:c=b
   ·rw [if_neg (fun q=>e1 (e2.symm.trans q))];exact decide_eq_false (by lia)
   ·rw [if_neg e2]at h2;have q2:=of_decide_eq_false h2;rw [if_neg (by lia)];exact decide_eq_false (by lia)
theorem qtj(f:Keyed→List Int):Wo fun x y=>ltL (f x) (f y):=⟨fun _ _ h=>qcj h,fun _ _ _ h1 h2=>qdd h1 h2⟩
theorem qlK:∀{x y:List Int},ltL x y=false→ltL y x=false→x=y
 | [],[],_,_=>rfl
 | [],_::_,h,_=>nomatch h
 |_::_,[],_,h=>nomatch h
 |a::x,b::y,h1,h2=>by
  unfold ltL at h1 h2;by_cases e:a=b
  ·rw [if_pos e]at h1;rw [if_pos e.symm]at h2;rw [e,qlK h1 h2]
  ·rw [if_neg e]at h1;rw [if_neg (fun z=>e z.symm)]at h2;have:=of_decide_eq_false h1;have:=of_decide_eq_false h2;lia
theorem qiX:∀x y:List Int,ltL x y=HT.lexLt x y
 | [],[]=>(HT.qdD).symm
 | [],_::_=>(HT.qdf ..).symm
 |_::_,[]=>(HT.qcW ..).symm
 |a::x,b::y=>by
  rw [HT.qeW,←qiX x y]
  rfl
section
variable{prog:Program}{w:World}{A:Around}{E:Value→Shared→Prop}{s:Shared}
theorem qmc{l b:Addr}{items items2:Array Value}{ns ms:List Int}{Q:Bool→Shared→Prop}(hl:IsTup s.heap l items)(hb:IsTup s.heap b items2)(hi:IntsAre items.toList ns)(hj:IntsAre items2.toList ms)
  (hu:A.units<cLine) (h:Q (ltL ns ms) s):wpAny (model prog w) A (oneLt' true (.ref l) (.ref b)) Q E s:=by
 obtain⟨⟨c1,d1,a1,s1⟩,ho,hc,n,hd⟩:=id hl;obtain⟨⟨c2,d2,a2,s2⟩,ho2,hc2,n2,hd2⟩:=id hb;simp only at hc hd hc2 hd2;subst hc hd hc2 hd2;rw [qiX]at h;rw [oneLt'_eq];simp only [if_true];refine wpAny_bind (wpAny_cRoomFor hu ?_);refine wpAny_bind (wpAny_callSpecialIfBound?_slot ⟨_,ho,rfl⟩ PySem.F.slot_tuple_lt (call_meets PySem.F.slot_tuple_lt ⟨_,ho,rfl⟩ PySem.F.entry_tuple_lt (PySem.F.args_tuple_lt_2 _ _) (HT.qdE l b items items2 n n2 d1 d2 s1 s2 ns ms hi hj) ⟨ho,ho2,?_⟩));exact wpAny_truthy_bool h
end
end TS
namespace TS
open PySem PySem.W PyProof.Rows
noncomputable def TupAt(h:Heap)(v:Value)(ns:List Int):Prop:=∃a o items n,v=.ref a∧h.get? a=some o∧o.cls=.type "tuple"∧o.data=.seq items n∧IntsAre items.toList ns
inductive zW(h:Heap):List Value→List (List Int)→Prop
 |nil:zW h [] []
 |cons {v:Value}{vs:List Value}{k:List Int}{ks:List (List Int)}:TupAt h v k→zW h vs ks→zW h (v::vs) (k::ks)
theorem zW.mem{h:Heap}{vs:List Value}{ks:List (List Int)}(t:zW h vs ks):∀v∈vs,∃k,TupAt h v k:=by
 induction t with
 |nil=>intro v hv;cases hv
 |cons a t ih=>
  intro v hv;rcases List.mem_cons.mp hv with e|hv
  ·subst e;exact⟨_,a⟩
  ·exact ih v hv
section
variable{M:Model}{A:Around}{E:Value→Shared→Prop}{s:Shared}
theorem qgk{h:Heap}{v:Value}{k:List Int}(t:TupAt h v k):Looks M h (typeOf v) (.type "tuple"):=by
 obtain⟨a,o,items,n,rfl,ho,hc,_⟩:=t;have:Looks M h (typeOf (.ref a)) o.cls:=(Looks.ld ho).andThen .now
 rwa [hc]at this
theorem qkp{vs:List Value}{ks:List (List Int)}(t:zW s.heap vs ks):∀{Q:List (Option Value)→Shared→Prop},(∀os:List (Option Value),os.map Option.isSome=ks.map (fun k=>!k.isEmpty)→Q os s)→wpAny M A (vs.mapM firstOfTuple') Q E s:=by
 induction t with
 |nil=>intro Q h;rw [List.mapM_nil];exact wpAny_pure (h [] rfl)
 | @cons v vs k ks a t ih=>
  intro Q h;rw [List.mapM_cons];refine wpAny_bind ?_;rw [kas_first_eq];refine wpAny_bind ((qgk a).here ?_);rw [if_neg (by first|decide|simp)];obtain⟨b,o,items,n,rfl,ho,hc,hd,hi⟩:=a;refine wpAny_bind (listItems_at ho hd (wpAny_pure (wpAny_bind (ih fun os e=>wpAny_pure (h _ ?_)))));rw [List.map_cons,e,List.map_cons]
  congr 1
  obtain⟨l⟩:=items;cases hi with
  |nil=>rfl
  |cons _ _ _=>rfl
theorem qnB{vs:List Value}{ks:List (List Int)}{Q:SortKind→Shared→Prop}(t:zW s.heap vs ([]::ks))(h:Q oneType' s):wpAny M A (keyKind' vs.toArray) Q E s:=by
 rw [keyKind'_eq,List.mapM_toArray,map_eq_pure_bind];refine wpAny_bind (wpAny_bind (qkp t fun os e=>wpAny_pure ?_));obtain⟨o,os',rfl,eo⟩:∃o os',os=o::os'∧o.isSome=false:=by
  cases os with
  |nil=>cases e
  |cons o os'=>rw [List.map_cons,List.map_cons]at e;exact⟨o,os',rfl,(List.cons.inj e).1⟩
 obtain rfl:o=none:=by cases o with
  |none=>rfl
  |some _=>cases eo
 rw [if_neg (by simp),if_neg (by simp),oneTypeOnly'_eq,List.mapM_toArray,map_eq_pure_bind];refine wpAny_bind (wpAny_bind (wpAny_bind (kas_mapM (r:=Value.type "tuple") _ (fun v hv Q' hq=>by obtain⟨k,a⟩:=t.mem v hv;exact(qgk a).here hq) (wpAny_pure ?_))));have e0:(List.map (fun _=>Value.type "tuple") vs).toArray[0]? = some (Value.type "tuple"):=by
  cases t with
  |cons a t=>simp
 have e1:((List.map (fun _=>Value.type "tuple") vs).toArray.all fun x=>x==Value.type "tuple")=true:=by
  simp only [List.all_toArray,List.all_map,List.all_eq_true];intro _ _
  rfl
 rw [e0];simp only [e1,if_true];exact wpAny_pure (wpAny_pure h)
end
section
variable{M:Model}{A:Around}{E:Value→Shared→Prop}{s:Shared}
theorem zW.firsts{h:Heap}{vs:List Value}{ks:List (List Int)}(t:zW h vs ks)(hne:∀k∈ks,k≠[]):∃fs,KatTups h vs fs∧fs.length=vs.length∧∀v∈fs,∃i t,v=Value.int i t:=by
 induction t with
 |nil=>exact⟨[],trivial,rfl,fun _ h=>nomatch h⟩
 | @cons v vs k ks a t ih=>
  obtain⟨fs,k1,k2,k3⟩:=ih fun k hk=>hne k (List.mem_cons_of_mem _ hk)
  obtain⟨b,o,items,n,rfl,ho,hc,hd,hi⟩:=a;obtain⟨l⟩:=items;cases hi with
  |nil=>exact absurd rfl (hne [] List.mem_cons_self)
  |cons i t _=>exact⟨.int i t::fs,KatTups.cons ho hc hd rfl k1,by simp [k2],fun w hw=>(List.mem_cons.mp hw).elim (fun z=>⟨i,t,z⟩) (k3 w)⟩
theorem kind_all{vs:List Value}{ks:List (List Int)}{Q:SortKind→Shared→Prop}(t:zW s.heap vs ks)(h1:0<vs.length)(hne:∀k∈ks,k≠[])(h:Q (tuples' true) s):wpAny M A (keyKind' vs.toArray) Q E s:=by
 obtain⟨fs,k1,k2,k3⟩:=t.firsts hne;refine kat_kind (T:=.type "int") (fs:=fs) k1 (by lia) (fun v hv=>?_) (by decide) ?_
 ·obtain⟨i,t,rfl⟩:=k3 v hv;exact Looks.of_pure rfl
 ·have hb:((Value.type "int") != Value.type "tuple")=true:=by decide
  rw [hb];exact h
theorem qhl{prog:Program}{w:World}{Q:Bool→Shared→Prop}{fin:Bool}:∀{xs ys:List Value}{ns ms:List Int} (i:Nat),IntsAre xs ns→IntsAre ys ms→fin=decide (xs.length<ys.length)→Q (ltL ns ms) s→KatLex prog w A true fin Q (xs.zip ys) i s
 |_,_,_,_,i,.nil,.nil,hf,h=>kat_nil (by rw [hf];exact h)
 |_,_,_,_,i,.nil,.cons _ _ _,hf,h=>kat_nil (by rw [hf];exact h)
 |_,_,_,_,i,.cons _ _ _,.nil,hf,h=>kat_nil (by rw [hf];exact h)
 |_,_,_,_,i,.cons (vs:=xs) (ns:=ns) a t hx,.cons (vs:=ys) (ns:=ms) b u hy,hf,h=>by
  rw [List.zip_cons_cons];refine kat_cons (SeqAt.EqAt.int_int _ _ _ _ prog w _ _ ?_);unfold ltL at h;by_cases hc:a=b
  ·rw [if_pos hc]at h;rw [show (a==b)=true by simp [hc]];exact kat_yes (qhl (i+1) hx hy (by rw [hf];simp) h)
  ·rw [if_neg hc]at h;rw [show (a==b)=false by simp [hc]];refine kat_no ?_;cases i with
   |zero=>exact oneLt_int h
   |succ i=>exact kat_one _ _ (lt_int h)
end
noncomputable def qam(h:Heap)(x:Keyed):List Int:=open Classical in if z:∃k,TupAt h x.1 k then z.choose else []
theorem TupAt.keep{h h':Heap}(k:∀b o,h.get? b=some o→h'.get? b=some o){v:Value}{ns:List Int}(t:TupAt h v ns):TupAt h' v ns:=by
 obtain⟨a,o,its,n,e1,e2,e3⟩:=t;exact⟨a,o,its,n,e1,k _ _ e2,e3⟩
theorem zW.keep{h h':Heap}(k:∀b o,h.get? b=some o→h'.get? b=some o){vs:List Value}{ks:List (List Int)}(t:zW h vs ks):zW h' vs ks:=by
 induction t with
 |nil=>exact .nil
 |cons a _ ih=>exact .cons (a.keep k) ih
theorem qcn{h:Heap}{x:Keyed}(z:∃k,TupAt h x.1 k):TupAt h x.1 (qam h x):=by
 unfold qam;rw [dif_pos z];exact z.choose_spec
theorem qpK{prog:Program}{w:World}{A:Around}{s:Shared}{h0:Heap}{l:List Keyed}(hk:∀b o,h0.get? b=some o→s.heap.get? b=some o)(hl:∀x∈l,∃k,TupAt h0 x.1 k)(hu:A.units<cLine):Cmp prog w A s oneType' (·∈l) (fun x y=>ltL (qam h0 x) (qam h0 y)):=
 ⟨fun x y hx hy Q h=>by
  obtain⟨a,o,its,n,e1,e2,e3,e4,e5⟩:=(qcn (hl x hx)).keep hk;obtain⟨a',o',its',n',f1,f2,f3,f4,f5⟩:=(qcn (hl y hy)).keep hk;rw [keyLt'_oneType,e1,f1];exact qmc ⟨o,e2,e3,n,e4⟩ ⟨o',f2,f3,n',f4⟩ e5 f5 hu h,
  fun _ _ h=>qcj h,fun _ _ _ h1 h2=>qdd h1 h2⟩
theorem qpD{prog:Program}{w:World}{A:Around}{s:Shared}{h0:Heap}{l:List Keyed}(hk:∀b o,h0.get? b=some o→s.heap.get? b=some o)(hl:∀x∈l,∃k,TupAt h0 x.1 k):Cmp prog w A s (tuples' true) (·∈l) (fun x y=>ltL (qam h0 x) (qam h0 y)):=
 ⟨fun x y hx hy Q h=>by
  obtain⟨a,o,its,n,e1,e2,e3,e4,e5⟩:=(qcn (hl x hx)).keep hk;obtain⟨a',o',its',n',f1,f2,f3,f4,f5⟩:=(qcn (hl y hy)).keep hk;rw [e1,f1];refine kat_lt e2 e4 f2 f4 (qhl 0 e5 f5 ?_ h);rw [Array.length_toList,Array.length_toList],
  fun _ _ h=>qcj h,fun _ _ _ h1 h2=>qdd h1 h2⟩
theorem qhW{h:Heap}:∀(l:List Keyed),(∀x∈l,x.1=x.2∧∃k,TupAt h x.1 k)→zW h (l.map (·.2)) (l.map (qam h))
 | [],_=>.nil
 |x::l,z=>.cons (by have:=z x List.mem_cons_self;show TupAt h x.2 _;rw [←this.1];exact qcn this.2) (qhW l fun y hy=>z y (List.mem_cons_of_mem _ hy))
theorem qqs{LT:Keyed→Keyed→Bool}{R:Keyed→Int}{a:Array Keyed}(S:Seg R a 0 a.size)(K:∀x∈a.toList,∀y∈a.toList,LT x y=decide (R x<R y)):a.toList.Pairwise fun x y=>LT y x=false:=by
 rw [List.pairwise_iff_getElem];intro i j hi hj hij;rw [K _ (List.getElem_mem hj) _ (List.getElem_mem hi)];rw [Array.length_toList]at hi hj;have:=S i j (by lia) hj;unfold Kr at this;have e1:=qcZ hi;have e2:=qcZ hj;rw [Array.getElem?_eq_getElem hi]at e1;rw [Array.getElem?_eq_getElem hj]at e2;injection e1 with e1
 injection e2 with e2
 rw [Nat.zero_add,Nat.zero_add,←e1,←e2]at this;rw [Array.getElem_toList,Array.getElem_toList];exact decide_eq_false (by lia)
section
variable{prog:Program}{w:World}{A:Around}{E:Value→Shared→Prop}{s:Shared}
theorem qgi{h0:Heap}{a:Addr}{vs:List Value}{ks:List (List Int)}{P:Fin→Shared→Prop}(hoL:s.heap.get? a=some (seqObj "list" vs.toArray 0))(keep:∀b o,h0.get? b=some o→s.heap.get? b=some o)(hap:∀b o,h0.get? b=some o→b≠a)(h2:2≤vs.length)(h64:vs.length<64)(hz:vs.length≤sizeLine)(t:zW h0 vs ks)(hed:ks.head? = some []∨∀k∈ks,k≠[])(hu:A.units<cLine)
  (h:∀(out:List Value) (ks':List (List Int)),out.Perm vs→zW h0 out ks'→ks'.Pairwise (fun a b=>ltL b a=false)→P (.done (.ret .none)) {s with heap:=sortedHeap s.heap a vs out.toArray}) :
  wpAny (model prog w) A (Builtin.«list.sort» ⟨[.ref a],[]⟩) P E s:=by
 rw [list_sort_plain];refine wpAny_bind (listItems_at  hoL rfl ?_);refine wpAny_bind (listUpdate_at  hoL rfl ?_ (by rw [List.size_toArray];exact hz) (Nat.zero_le _));obtain⟨e1,ho1⟩:∃e1,(s.heap.update a (Obj.mapSeq fun _=>#[])).get? a=some (seqObj "list" #[] e1):=⟨_,get?_update_seq hoL (fun _=>#[])⟩
 refine wpAny_bind (seqEpoch_at ho1 rfl ?_);refine wpAny_bind (wpAny_newTuple ?_ (by show vs.length≤_;exact hz));refine wpAny_bind (wpAny_newList ?_ (Nat.zero_le _));refine wpAny_holding ?_;have hlt:a<s.heap.objs.size:=Heap.lt_size hoL;have k6:∀b o,h0.get? b=some o→(((s.heap.update a (Obj.mapSeq fun _=>#[])).push (seqObj "tuple" vs.toArray 0)).push (seqObj "list" #[] 0)).get? b=some o:=fun b o q=>
  Heap.get?_push_of_some _ (Heap.get?_push_of_some _ (by rw [Heap.get?_update_ne _ _ _ _ (hap b o q)];exact keep b o q))
 have ho6:(((s.heap.update a (Obj.mapSeq fun _=>#[])).push (seqObj "tuple" vs.toArray 0)).push (seqObj "list" #[] 0)).get? a=some (seqObj "list" #[] e1):=Heap.get?_push_of_some _ (Heap.get?_push_of_some _ ho1);show wpAny (model prog w) _ _ _ _ {s with heap:=((s.heap.update a (Obj.mapSeq fun _=>#[])).push (seqObj "tuple" vs.toArray 0)).push (seqObj "list" #[] 0)};dsimp only;have h2':¬ vs.toArray.size<2:=by rw [List.size_toArray];lia
 rw [if_neg h2',if_neg h2'];have pz:(vs.toArray.zip vs.toArray)=pairsOf vs:=rfl;have hx:∀x∈(pairsOf vs).toList,x.1=x.2∧∃k,TupAt h0 x.1 k:=fun x hx=>by
  rw [pairsOf_toList]at hx;obtain⟨b1,b2⟩:=mem_zip_self hx;exact⟨b1,t.mem _ b2⟩
 obtain⟨κ,kk,C⟩:∃κ,(∀Q:SortKind→Shared→Prop,Q κ {s with heap:=((s.heap.update a (Obj.mapSeq fun _=>#[])).push (seqObj "tuple" vs.toArray 0)).push (seqObj "list" #[] 0)}→wpAny (model prog w) A (keyKind' vs.toArray) Q E {s with heap:=((s.heap.update a (Obj.mapSeq fun _=>#[])).push (seqObj "tuple" vs.toArray 0)).push (seqObj "list" #[] 0)})∧Cmp prog w A {s with heap:=((s.heap.update a (Obj.mapSeq fun _=>#[])).push (seqObj "tuple" vs.toArray 0)).push (seqObj "list" #[] 0)} κ (·∈(pairsOf vs).toList) (fun x y=>ltL (qam h0 x) (qam h0 y)):=by
  rcases hed with hh|hh
  ·refine⟨oneType',fun Q q=>?_,qpK k6 (fun x z=>(hx x z).2) hu⟩;cases ks with
   |nil=>cases hh
   |cons k ks=>
    cases hh;exact qnB (t.keep k6) q
  ·exact⟨tuples' true,fun Q q=>kind_all (t.keep k6) (by lia) hh q,qpD k6 fun x z=>(hx x z).2⟩
 refine wpAny_bind (kk _ ?_);have K:=(qtj (qam h0)).rank (pairsOf vs).toList;refine wpAny_bind (wpAny_mono (qgL (Q:=fun _ st'=>(arrOf st').Perm (pairsOf vs)∧failedOf st'=none∧Seg (qfw (fun x y=>ltL (qam h0 x) (qam h0 y)) (pairsOf vs).toList) (arrOf st') 0 (pairsOf vs).size) C K (fun _ z=>z) rfl rfl rfl rfl (by rw [pairsOf_size];exact h2) (by rw [pairsOf_size];exact h64) fun st' z1 z2 z3=>⟨z1,z2,z3⟩) ?_ fun _ _ e=>e);rintro⟨⟨⟩,st'⟩ s' ⟨rfl,pm,fl,sg⟩;dsimp only;have pl:=Array.perm_iff_toList_perm.mp pm;have om:((arrOf st').map (·.2))=((arrOf st').toList.map (·.2)).toArray:=by
  generalize arrOf st'=z;apply Array.toList_inj.mp;rw [Array.toList_map]
 have op:((arrOf st').toList.map (·.2)).Perm vs:=by
  have:=pl.map (·.2)
  rwa [pairsOf_toList,List.map_snd_zip (Nat.le_refl _)]at this
 have ht:=qhW (arrOf st').toList fun x z=>hx x (pl.mem_iff.mp z)
 have hs:=qqs (LT:=fun x y=>ltL (qam h0 x) (qam h0 y)) (R:=qfw (fun x y=>ltL (qam h0 x) (qam h0 y)) (pairsOf vs).toList) (a:=arrOf st') (by rw [pm.size_eq];exact sg) fun x z1 y z2=>K.rk x y (pl.mem_iff.mp z1) (pl.mem_iff.mp z2)
 have fin:=h _ _ op ht (by rw [List.pairwise_map];exact hs);refine wpAny_bind (seqEpoch_at ho6 rfl ?_);refine wpAny_bind (listUpdate_at ho6 rfl ?_ (Nat.zero_le _) (by rw [om,List.size_toArray,op.length_eq];lia));rw [fl];simp only [bne_self_eq_false,Bool.false_eq_true,if_false];refine wpAny_pure ?_;rw [om];exact fin
theorem qlR{l:Addr}{vs:List Value}{ks:List (List Int)}{Q:Value→Shared→Prop}(hl:s.heap.IsList l vs.toArray)(h2:2≤vs.length)(h64:vs.length<64)(hz:vs.length≤sizeLine)(t:zW s.heap vs ks)(hed:ks.head? = some []∨∀k∈ks,k≠[])(hu:A.in1.in1.units<cLine)
  (h:∀(out:List Value) (ks':List (List Int)),out.Perm vs→zW s.heap out ks'→ks'.Pairwise (fun a b=>ltL b a=false)→Q (.ref (s.heap.objs.size+1)) {s with heap:=sortedAll s.heap vs out.toArray}) :
  wpAny (model prog w) A (call (.builtin "sorted") [.ref l]) Q E s:=by
 refine Calls.call_function_entry kind_sorted plain_sorted entry_sorted (args_sorted1 _) ?_;unfold Builtin.«sorted»;refine wpAny_bind (m:=checkCount "sorted" 1 1 _) (wpAny_pure ?_);refine wpAny_bind (collect_list hl ?_ hz);refine wpAny_bind (wpAny_newList ?_ hz);have hsz:((s.heap.push (seqObj "list" #[] 0)).update s.heap.objs.size (Obj.mapSeq (· ++ vs.toArray))).objs.size=s.heap.objs.size+1:=by rw [Heap.size_update,size_push']
 have hoL:(((s.heap.push (seqObj "list" #[] 0)).update s.heap.objs.size (Obj.mapSeq (· ++ vs.toArray))).push (seqObj "list" vs.toArray 0)).get? (s.heap.objs.size+1)=some (seqObj "list" vs.toArray 0):=by rw [←hsz];exact Heap.get?_push_size _ rfl
 have keep:∀b o,s.heap.get? b=some o→(((s.heap.push (seqObj "list" #[] 0)).update s.heap.objs.size (Obj.mapSeq (· ++ vs.toArray))).push (seqObj "list" vs.toArray 0)).get? b=some o:=fun b o q=>by
  have hlt:b<s.heap.objs.size:=Heap.lt_size q;rw [Heap.get?_push_ne _ _ _ (by rw [hsz];exact Nat.ne_of_lt (Nat.lt_succ_of_lt hlt)),Heap.get?_update_ne _ _ _ _ (Nat.ne_of_lt hlt),Heap.get?_push_ne _ _ _ (Nat.ne_of_lt hlt)];exact q
 show wpAny _ _ _ _ _ {s with heap:=((s.heap.push (seqObj "list" #[] 0)).update s.heap.objs.size (Obj.mapSeq (· ++ vs.toArray))).push (seqObj "list" vs.toArray 0)};rw [hsz];refine wpAny_bind (wpAny_holding (wpAny_call_entry slot_list_sort ⟨_,hoL,rfl⟩ entry_list_sort ?body (args_list_sort _)))
 case body=>
  have hap:∀b o,s.heap.get? b=some o→b≠s.heap.objs.size+1:=fun b o q=>Nat.ne_of_lt (Nat.lt_succ_of_lt (Heap.lt_size q))
  refine qgi (h0:=s.heap) hoL keep hap h2 h64 hz t hed hu fun out ks' a1 a2 a3=>⟨_,rfl,wpAny_pure ⟨_,rfl,h out ks' a1 a2 a3⟩⟩
end
end TS
namespace L2
open PySem PySem.Spec PyProof.Rows TS
theorem qgz:∀{vs:List Value}{a b:List Int},IntsAre vs a→IntsAre vs b→a=b
 |_,_,_,.nil,.nil=>rfl
 |_,_,_,.cons n t h,h'=>by
  cases h' with
  |cons n' t' h''=>rw [qgz h h'']
theorem qdt{h:Heap}{v:Value}{a b:List Int}(x:TupAt h v a)(y:TupAt h v b):a=b:=by
 obtain⟨p,o,its,n,rfl,e2,_,e4,e5⟩:=x;obtain⟨p',o',its',n',f1,f2,_,f4,f5⟩:=y;cases f1;rw [e2]at f2;cases f2;rw [e4]at f4;cases f4;exact qgz e5 f5
theorem qcJ{h:Heap}{f:Addr→List Int}:∀(ps:List Addr),(∀p∈ps,TupAt h (.ref p) (f p))→zW h (ps.map Value.ref) (ps.map f)
 | [],_=>.nil
 |p::ps,z=>.cons (z p List.mem_cons_self) (qcJ ps fun q hq=>z q (List.mem_cons_of_mem _ hq))
theorem qmi{h:Heap}{vs:List Value}{a b:List (List Int)}(x:zW h vs a)(y:zW h vs b):a=b:=by
 induction x generalizing b with
 |nil=>cases y;rfl
 |cons t _ ih=>
  cases y with
  |cons t' y'=>rw [qdt t t',ih y']
theorem qoY{ps:List Addr}:∀{us:List Value},Vals (ps.map V.ref) us→us=ps.map Value.ref:=by
 induction ps with
 |nil=>intro us r;cases r;rfl
 |cons p ps ih=>
  intro us r;cases r with
  |cons h t=>rw [ih t,show _=Value.ref p from h];rfl
theorem qec:∀(ps:List Addr),Vals (ps.map V.ref) (ps.map Value.ref)
 | []=>.nil
 |p::ps=>.cons rfl (qec ps)
noncomputable def qcw:Value→Addr
 | .ref a=>a
 |_=>0
noncomputable def qsp(K:PySem.W.Frag):List V→Hp→VK→Prop:=fun vs H Q=>∃(l:Addr) (p:Addr) (ps:List Addr) (f:Addr→List Int),vs=[.ref l]∧SqL K H l ((p::ps).map V.ref)∧ps≠[]∧ps.length+1<64∧(f p=[]∨∀q∈p::ps,f q≠[]) ∧
 (∀q∈p::ps,SqT K H q ((f q).map V.int))∧∀(D:Addr) (qs:List Addr),H D=none→qs.Perm (p::ps)→(qs.map f).Pairwise (fun a b=>ltL b a=false)→Q (.ref D) (upd H D (.lst (qs.map V.ref)))
theorem qjX{X:Cx}(hu:X.A.in1.in1.units<cLine):qz X (.builtin "sorted") (qsp X.K):=by
 intro pins s σ H xs us Q I r h;obtain⟨l,p,ps,f,rfl,hl,hne,h64,hf,hp,q⟩:=h;obtain⟨u,rfl,ru⟩:=r.one;cases ru;obtain⟨its,rv,pl,hz⟩:=I.list hl;have ei:=qoY rv;subst ei;have tp:∀z∈p::ps,TupAt s.heap (.ref z) (f z):=fun z hz=>by
  obtain⟨its,r2,⟨o,e1,e2,n,e3⟩,_⟩:=I.tuple (hp z hz);exact⟨z,o,its.toArray,n,rfl,e1,e2,e3,by simpa using intsAre_of r2⟩
 have t:=qcJ (p::ps) tp;have hz':((p::ps).map Value.ref).length≤sizeLine:=by simpa using hz
 refine qlR pl.isList (by cases ps with
  |nil=>exact absurd rfl hne
  |cons _ _=>simp) (by simpa using h64) hz' t (by
   rcases hf with hf|hf
   ·left;rw [List.map_cons,hf];rfl
   ·right;intro k hk;obtain⟨q,hq,rfl⟩:=List.mem_map.mp hk;exact hf q hq) hu fun out ks' op ot os=>?_
 have eo:out=(out.map qcw).map Value.ref:=by
  rw [List.map_map]
  conv=>lhs;rw [←List.map_id out]
  refine List.map_congr_left fun v hv=>?_
  obtain⟨a,_,rfl⟩:=List.mem_map.mp (op.mem_iff.mp hv)
  rfl
 have qp:(out.map qcw).Perm (p::ps):=by
  have:=op.map qcw
  rwa [List.map_map,show (qcw∘Value.ref)=id from rfl,List.map_id]at this
 have ek:ks'=(out.map qcw).map f:=by
  rw [eo]at ot;exact qmi ot (qcJ _ fun z hz=>tp z (qp.mem_iff.mp hz))
 subst ek;obtain⟨c,hc⟩:=sortedAll_at s.heap ((p::ps).map Value.ref) out.toArray;have hD0:s.heap.get? (s.heap.objs.size+1)=none:=Heap.get?_none_of_le (Nat.le_succ _);have q':=q (s.heap.objs.size+1) (out.map qcw) (I.hok.free_of hD0) qp os;refine⟨.ref (s.heap.objs.size+1),_,I.newList (s':={s with heap:=sortedAll s.heap ((p::ps).map Value.ref) out.toArray}) (c:=c) (its:=out) rfl rfl (fun b o _ e=>sortedAll_old e) (fun m hm=>hm.keeps fun b o e=>sortedAll_old e) hD0 (Nat.ne_of_gt (Nat.lt_succ_of_lt I.lt)) hc (by have:=qec (out.map qcw);rwa [←eo]at this) (by rw [List.length_map,List.length_map,op.length_eq];exact hz'),rfl,q'⟩
noncomputable def qlh(K:PySem.W.Frag):List V→Hp→VK→Prop:=fun vs H Q=>∃(l:Addr) (as:List Addr) (ts:List (List Int)),vs=[.ref l]∧SqL K H l (as.map V.ref)∧as.length=ts.length∧2≤ts.length∧ts.length<64∧(ts[0]? = some []∨∀t∈ts,t≠[]) ∧
 (∀(i:Nat) a t,as[i]? = some a→ts[i]? = some t→SqT K H a (t.map V.int)) ∧
 ∀(D:Addr) (qs:List Addr) (f:Addr→List Int),H D=none→qs.Perm as→(∀(i:Nat) a t,as[i]? = some a→ts[i]? = some t→f a=t)→(qs.map f).Pairwise (fun a b=>ltL b a=false)→Q (.ref D) (upd H D (.lst (qs.map V.ref)))
theorem qkw{X:Cx}(hu:X.A.in1.in1.units<cLine):qz X (.builtin "sorted") (qlh X.K):=by
 intro pins s σ H xs us Q I r h;obtain⟨l,as,ts,rfl,hl,hlen,h2,h64,h0,ht,q⟩:=h;have tp:∀(i:Nat) a t,as[i]? = some a→ts[i]? = some t→TupAt s.heap (.ref a) t:=fun i a t ha hb=>by
  obtain⟨its,r2,⟨o,e1,e2,n,e3⟩,_⟩:=I.tuple (ht i a t ha hb);exact⟨a,o,its.toArray,n,rfl,e1,e2,e3,by simpa using intsAre_of r2⟩
 let f:Addr→List Int:=fun a=>ts.getD (as.idxOf a) []
 have hf:∀(i:Nat) a t,as[i]? = some a→ts[i]? = some t→f a=t:=fun i a t ha hb=>by
  have hm:a∈as:=List.mem_of_getElem? ha;have hi:=List.idxOf_lt_length_of_mem hm;have e1:as[as.idxOf a]? = some a:=by rw [List.getElem?_eq_getElem hi];simp
  have e2:ts[as.idxOf a]? = some (f a):=by
   have:as.idxOf a<ts.length:=by lia
   simp [f,this]
  exact qdt (tp _ _ _ e1 e2) (tp _ _ _ ha hb)
 match as,hlen with
 | [],hlen=>simp at hlen;lia
 |p::ps,hlen=>
  have hne:ps≠[]:=fun z=>by subst z;simp at hlen;lia
  refine qjX hu pins s σ H _ us Q I r ⟨l,p,ps,f,rfl,hl,hne,by simp at hlen;lia,?_,fun a ha=>?_,fun D qs hD hp hs=>q D qs f hD hp hf hs⟩
  ·rcases h0 with h0|h0
   ·exact .inl (hf 0 p [] (by simp) h0)
   ·refine .inr fun a ha=>?_
    obtain⟨i,hi,rfl⟩:=List.getElem_of_mem ha;have hi':i<ts.length:=by lia
    rw [hf i (p::ps)[i] ts[i] (by simp) (by simp)];exact h0 _ (List.getElem_mem hi')
  obtain⟨i,hi,rfl⟩:=List.getElem_of_mem ha;have hi':i<ts.length:=by lia
  have e:=ht i (p::ps)[i] ts[i] (by simp) (by simp)
  rwa [←hf i (p::ps)[i] ts[i] (by simp) (by simp)]at e
noncomputable def qrH(K:PySem.W.Frag):List V→Hp→VK→Prop:=fun vs H Q=>∃(l:Addr) (xs:List V),vs=[.ref l]∧SqL K H l xs∧xs.length<2∧∀D,H D=none→Q (.ref D) (upd H D (.lst xs))
theorem qto{X:Cx}:qz X (.builtin "sorted") (qrH X.K):=by
 intro pins s σ H xs us Q I r h;obtain⟨l,ys,rfl,hl,h2,q⟩:=h;obtain⟨u,rfl,ru⟩:=r.one;cases ru;obtain⟨its,rv,pl,hz⟩:=I.list hl;have hl':=rv.length;refine qjq pl.isList (by lia) ?_;obtain⟨c,hc⟩:=sortedAll_at s.heap its its.toArray;have hD0:s.heap.get? (s.heap.objs.size+1)=none:=Heap.get?_none_of_le (Nat.le_succ _);exact⟨.ref (s.heap.objs.size+1),_,I.newList (s':={s with heap:=sortedAll s.heap its its.toArray}) (c:=c) rfl rfl (fun b o _ e=>sortedAll_old e) (fun m hm=>hm.keeps fun b o e=>sortedAll_old e) hD0 (Nat.ne_of_gt (Nat.lt_succ_of_lt I.lt)) hc rv (by rw [sizeLine_eq];lia),rfl,q _ (I.hok.free_of hD0)⟩
end L2
namespace L2
open PySem PySem.Spec PyProof.Rows
section
variable{X:Cx}
end
theorem qmF{its:List Value}{ns:List Int}(hi:IntsAre its ns):∃ps:Array (Int×Tok),its.toArray=intItems ps∧ns=ps.toList.map Prod.fst:=by
 rcases hi.allInts.items with ⟨ps,hx⟩
 refine⟨ps,hx,?_⟩;have z:numsOf its.toArray.toList=ns:=hi.numsOf;rw [hx,nums_intItems]at z;exact z.symm
section
variable{X:Cx}
theorem qlW(hc:X.calm=true):qz X (.builtin "sum") (fun xs H Q=>∃(l:Addr) (ns:List Int),xs=[.ref l]∧SqL X.K H l (ns.map V.int)∧Q (.int ns.sum) H):=by
 intro pins s σ H xs us Q I r h;obtain⟨l,ns,rfl,hl,q⟩:=h;obtain⟨u,rfl,ru⟩:=r.one;cases ru;obtain⟨its,rv,pl,hz⟩:=I.list hl;obtain⟨ps,hx,e1⟩:=qmF (intsAre_of rv);refine sum_intListG (I.ok.hd hc) (hx▸pl.isList) fun h' tk t' hk=>?_
 have e2:preSum (numAt ps) ps.size=ns.sum:=by
  rw [preSum_eq,e1];exact congrArg List.sum (List.take_of_length_le (by simp))
 rw [e2];exact⟨.int _,H,I.kept hk,⟨_,rfl⟩,q⟩
end
end L2
namespace EV
open PySem PySem.Spec PySem.P PyProof.Rows L2
theorem insI_perm(i:Int):∀l,(insI i l).Perm (i::l)
 | []=>.refl _
 |j::r=>by
  unfold insI;split
  ·exact .refl _
  ·exact((insI_perm i r).cons j).trans (.swap ..)
theorem sortI_perm:∀l,(sortI l).Perm l
 | []=>.refl _
 |i::r=>(insI_perm i _).trans ((sortI_perm r).cons i)
theorem qeu(i:Int):∀{l:List Int},l.Pairwise (·≤·)→(insI i l).Pairwise (·≤·)
 | [],_=>by simp [insI]
 |j::r,h=>by
  unfold insI;obtain⟨h1,h2⟩:=List.pairwise_cons.mp h;split
  ·rename_i hij
   refine List.pairwise_cons.mpr ⟨fun x hx=>?_,h⟩;rcases List.mem_cons.mp hx with rfl|hx
   ·exact hij
   ·exact Int.le_trans hij (h1 x hx)
  ·rename_i hij
   refine List.pairwise_cons.mpr ⟨fun x hx=>?_,qeu i h2⟩;rcases List.mem_cons.mp ((insI_perm i r).mem_iff.mp hx)with rfl|hx
   ·lia
   ·exact h1 x hx
theorem qdP:∀l:List Int,(sortI l).Pairwise (·≤·)
 | []=>.nil
 |i::r=>qeu i (qdP r)
theorem qhN{l m:List Int}(h1:m.Perm l)(h2:m.Pairwise (·≤·)):m=sortI l:=PySem.W.ksm_same (h1.trans (sortI_perm l).symm) h2 (qdP l)
theorem qdY(p:Int×Int):∀l,(qdl p l).Perm (p::l)
 | []=>.refl _
 |j::r=>by
  unfold qdl;split
  ·exact((qdY p r).cons j).trans (.swap ..)
  ·exact .refl _
theorem qcP:∀l,(zG l).Perm l
 | []=>.refl _
 |i::r=>(qdY i _).trans ((qcP r).cons i)
theorem qjk{a b:Int×Int}:ltP a b=true↔a.1<b.1∨(a.1=b.1∧a.2<b.2):=by
 unfold ltP;by_cases h:a.1=b.1
 ·simp [h]
 ·simp [h]
theorem qla{a b:Int×Int}:ltP a b=false↔b.1<a.1∨(a.1=b.1∧b.2≤a.2):=by
 rw [←Bool.not_eq_true,qjk];lia
theorem qez(p:Int×Int):∀{l:List (Int×Int)},l.Pairwise (fun a b=>ltP b a=false)→(qdl p l).Pairwise (fun a b=>ltP b a=false)
 | [],_=>by simp [qdl]
 |j::r,h=>by
  unfold qdl;obtain⟨h1,h2⟩:=List.pairwise_cons.mp h;split
  ·rename_i hij
   rw [qjk]at hij;refine List.pairwise_cons.mpr ⟨fun x hx=>?_,qez p h2⟩;rcases List.mem_cons.mp ((qdY p r).mem_iff.mp hx)with rfl|hx
   ·rw [qla];lia
   ·exact h1 x hx
  ·rename_i hij
   have hij':ltP j p=false:=by simpa using hij
   refine List.pairwise_cons.mpr ⟨fun x hx=>?_,h⟩;rcases List.mem_cons.mp hx with rfl|hx
   ·exact hij'
   ·have:=h1 x hx;rw [qla]at this hij' ⊢;lia
theorem qbM:∀l:List (Int×Int),(zG l).Pairwise (fun a b=>ltP b a=false)
 | []=>.nil
 |i::r=>qez i (qbM r)
theorem qhJ:∀(a b:List Int),qbh a b=TS.ltL a b
 | [],[]=>rfl
 | [],_::_=>rfl
 |_::_,[]=>rfl
 |a::r,b::t=>by
  unfold qbh TS.ltL;rw [qhJ r t]
theorem qdT(p:List Int):∀l,(qdA p l).Perm (p::l)
 | []=>.refl _
 |j::r=>by
  unfold qdA;split
  ·exact((qdT p r).cons j).trans (.swap ..)
  ·exact .refl _
theorem qfe:∀l,(qaO l).Perm l
 | []=>.refl _
 |i::r=>(qdT i _).trans ((qfe r).cons i)
theorem qev(p:List Int):∀{l:List (List Int)},l.Pairwise (fun a b=>TS.ltL b a=false)→(qdA p l).Pairwise (fun a b=>TS.ltL b a=false)
 | [],_=>by simp [qdA]
 |j::r,h=>by
  unfold qdA;obtain⟨h1,h2⟩:=List.pairwise_cons.mp h;rw [qhJ];split
  ·rename_i hij
   refine List.pairwise_cons.mpr ⟨fun x hx=>?_,qev p h2⟩;rcases List.mem_cons.mp ((qdT p r).mem_iff.mp hx)with rfl|hx
   ·exact TS.qcj hij
   ·exact h1 x hx
  ·rename_i hij
   have hij':TS.ltL j p=false:=by simpa using hij
   refine List.pairwise_cons.mpr ⟨fun x hx=>?_,h⟩;rcases List.mem_cons.mp hx with rfl|hx
   ·exact hij'
   ·exact TS.qdd hij' (h1 x hx)
theorem qdH:∀l:List (List Int),(qaO l).Pairwise (fun a b=>TS.ltL b a=false)
 | []=>.nil
 |i::r=>qev i (qdH r)
theorem qht{l m:List (List Int)}(h1:m.Perm l)(h2:m.Pairwise (fun a b=>TS.ltL b a=false)):m=qaO l:=
 (h1.trans (qfe l).symm).eq_of_pairwise (fun a b _ _ z1 z2=>TS.qlK z2 z1) h2 (qdH l)
section
variable{X:Cx}{g:Gc}
theorem qh.tups{H:Hp}{ds:List D}:∀{vs:List V}{ts:List (List Int)},qh g H ds vs→tups? ds=some ts→ds=ts.map qeJ∧∃as:List Addr,vs=as.map V.ref∧as.length=ts.length∧∀(i:Nat) a t,as[i]? = some a→ts[i]? = some t→SqT g.K H a (t.map V.int)∧Rep g H (qeJ t) (.ref a):=by
 induction ds with
 |nil=>intro vs ts h e;cases h;cases e;exact⟨rfl,[],rfl,rfl,fun i a p h=>by cases h⟩
 |cons d ds ih=>
  intro vs ts h e;cases h with
  |cons h t=>cases d with
   |tup xs=>
    obtain⟨n,e0,e⟩:=Option.bind_eq_some_iff.mp (show (ints? xs).bind (fun n=>(tups? ds).map (n :: ·))=some ts from e);obtain⟨ms,e1,rfl⟩:=Option.map_eq_some_iff.mp e;obtain⟨h1,as,h2,h3,h4⟩:=ih t e1;have hh:=h;cases h with
    | @tup a _ _ q r=>
     obtain⟨rfl,e2⟩:=r.ints e0;refine⟨by rw [h1,e2];rfl,a::as,by rw [h2];rfl,congrArg (· + 1) h3,fun i b p hb hp=>?_⟩;cases i with
     |zero=>cases hb;cases hp;exact⟨q,by rw [e2]at hh;exact hh⟩
     |succ i=>exact h4 i b p hb hp
   |_=>cases (show none=some ts from e)
theorem qh.pairs{H:Hp}{ds:List D}:∀{vs:List V}{ps:List (Int×Int)},qh g H ds vs→pairs? ds=some ps→ds=ps.map pairD∧∃as:List Addr,vs=as.map V.ref∧as.length=ps.length∧∀(i:Nat) a p,as[i]? = some a→ps[i]? = some p→SqT g.K H a [.int p.1,.int p.2]:=by
 induction ds with
 |nil=>intro vs ps h e;cases h;cases e;exact⟨rfl,[],rfl,rfl,fun i a p h=>by cases h⟩
 |cons d ds ih=>
  intro vs ps h e;have no:∀{P:Prop},pairs? (d::ds)=none→P:=fun z=>by rw [z]at e;cases e
  cases h with
  |cons h t=>cases d with
   |tup xs=>cases xs with
    |nil=>exact no rfl
    |cons a xs=>cases a with
     |int x=>cases xs with
      |nil=>exact no rfl
      |cons b xs=>cases b with
       |int y=>cases xs with
        |cons _ _=>exact no rfl
        |nil=>
         obtain⟨ms,e1,rfl⟩:=Option.map_eq_some_iff.mp (show (pairs? ds).map ((x,y) :: ·)=some ps from e);obtain⟨h1,as,h2,h3,h4⟩:=ih t e1;cases h with
         | @tup a xs _ q r=>
          obtain⟨rfl,_⟩:=r.ints (ns:=[x,y]) rfl;refine⟨by rw [h1];rfl,a::as,by rw [h2];rfl,congrArg (· + 1) h3,fun i b p hb hp=>?_⟩;cases i with
          |zero=>cases hb;cases hp;exact q
          |succ i=>exact h4 i b p hb hp
       |_=>exact no rfl
     |_=>exact no rfl
   |_=>exact no rfl
theorem qfN{H:Hp}:∀{ts:List (List Int)}{as:List Addr},as.length=ts.length→(∀(i:Nat) a t,as[i]? = some a→ts[i]? = some t→Rep g H (qeJ t) (.ref a))→qh g H (ts.map qeJ) (as.map V.ref)
 | [],[],_,_=>.nil
 |t::ts,a::as,e,h=>.cons (h 0 a t rfl rfl) (qfN (by simpa using e) fun i b u hb hu=>h (i+1) b u (by simpa using hb) (by simpa using hu))
theorem qdz:∀{xs:List D}{ps:List (Int×Int)},pairs? xs=some ps→tups? xs=some (ps.map fun p=>[p.1,p.2])
 | [],_,h=>by cases h;rfl
 | .tup [.int i,.int j]::r,ps,h=>by
  simp only [pairs?,Option.map_eq_some_iff]at h;obtain⟨qs,h1,rfl⟩:=h;show (some [i,j]).bind (fun n=>(tups? r).map (n :: ·))=_;rw [qdz h1];rfl
theorem qfa(p:Int×Int):∀qs:List (Int×Int),qdA [p.1,p.2] (qs.map fun p=>[p.1,p.2])=(qdl p qs).map fun p=>[p.1,p.2]
 | []=>rfl
 |q::r=>by
  have e:qbh [q.1,q.2] [p.1,p.2]=ltP q p:=by
   simp only [qbh,ltP];by_cases h:q.1=p.1
   ·rw [if_pos h,if_pos h];by_cases h':q.2=p.2
    ·rw [if_pos h',h'];simp
    ·rw [if_neg h']
   ·rw [if_neg h,if_neg h]
  rw [List.map_cons,qdA,qdl,e,qfa p r];cases ltP q p<;>rfl
theorem qcR:∀qs:List (Int×Int),qaO (qs.map fun p=>[p.1,p.2])=(zG qs).map fun p=>[p.1,p.2]
 | []=>rfl
 |q::r=>by rw [List.map_cons,qaO,zG,qcR r,qfa]
theorem qit{xs:List D}{ps:List (Int×Int)}(h:pairs? xs=some ps)(h2:2≤ps.length)(h64:xs.length<64):qay xs=.ok (.lst ((zG ps).map pairD)):=by
 rw [qay,if_pos h64,qdz h];have e:qda (ps.map fun p=>[p.1,p.2])=true:=by
  match ps,h2 with
  |p::q::r,_=>simp [qda]
 show (if qda _=true then _ else _)=_;rw [e,if_pos rfl,qcR,List.map_map]
 rfl
theorem qmg(hK:X.K=g.K)(hu:X.A.units+64<cLine):qz X (.builtin "sorted") (rB1 g .sorted):=qbk ((qsL.or (qto.or (qkw (show X.A.units+1+1<cLine by lia)))).or qik) fun S ds d vs H Q hs rs h q=>by
 obtain⟨x,rfl,h'⟩:=qby (fun _ _=>rfl) h;by_cases htu:∃xs,x=.tup xs
 ·obtain⟨xs,rfl⟩:=htu;have h':(if xs.length<64 then qaq (ints? xs) fun ns=>.ok (.lst ((sortI ns).map D.int))else .no)=R.ok d:=h';split at h'
  ·rename_i hz
   obtain⟨ns,e,h2⟩:=qcr h';cases h2;cases rs with
   |cons r rs=>
    cases rs;obtain⟨a,us,rfl,h1,r1⟩:=r.tup;obtain⟨rfl,rfl⟩:=r1.ints e;refine .inr ⟨a,ns,rfl,by rw [hK];exact h1,by simpa using hz,fun p ms hp pm pw=>?_⟩;rw [qhN pm pw];exact q _ _ (qu hp) (qas hs hp (qh.ofInts _)) fun _=>qbr (qf.refl _) hp (qh.ofInts _)
  ·cases h'
 refine .inl ?_;have h':(qcl x fun xs=>if xs.length<64 then (match ints? xs with
   |some ns=>.ok (.lst ((sortI ns).map D.int))
   |none=>match pairs? xs with
    |some ps=>.ok (.lst ((zG ps).map pairD))
    |none=>qay xs)else qay xs)=.ok d:=by cases x<;>first|exact absurd ⟨_,rfl⟩ htu|exact h'
 obtain⟨xs,rfl,h2⟩:=qdx h'
 replace h:=h2
 cases rs with
 |cons r rs=>
  cases rs;obtain⟨a,us,rfl,h1,r1⟩:=r.lst;have big:qay xs=.ok d→qlh X.K [.ref a] H Q:=fun h=>by
   by_cases h64:xs.length<64
   rotate_left
   ·rw [qay,if_neg h64]at h;cases h
   rw [qay,if_pos h64]at h;obtain⟨ts,e,h⟩:=qcr h;split at h
   ·rename_i hh
    cases h;obtain⟨rfl,as,rfl,hl,hp⟩:=r1.tups e;have hh':2≤ts.length∧(ts[0]? = some []∨∀t∈ts,t≠[]):=by
     match ts,hh with
     |p::q::r,hh=>
      refine⟨by simp,?_⟩;rw [qda,Bool.or_eq_true]at hh;rcases hh with hh|hh
      ·exact .inl (by simpa using hh)
      ·exact .inr fun t ht=>by simpa using List.all_eq_true.mp hh t ht
    refine⟨a,as,ts,rfl,by rw [hK];exact h1,hl,hh'.1,by simpa using h64,hh'.2,fun i b t hb ht=>by rw [hK];exact zO qab (hp i b t hb ht).1,fun D qs f hn pm hf ps=>?_⟩;have e1:as.map f=ts:=by
     refine List.ext_getElem (by simp [hl]) fun i h1 h2=>?_
     rw [List.getElem_map];have:i<as.length:=by simpa using h1
     exact hf i as[i] ts[i] (by simp [this]) (by simp [h2])
    have e2:qs.map f=qaO ts:=qht (by have:=pm.map f;rwa [e1]at this) ps;have hR:qh g (hid H S) ((qaO ts).map qeJ) (qs.map V.ref):=by
     rw [←e2];refine qfN (by simp) fun i b t hb ht=>?_
     have hm:b∈as:=pm.mem_iff.mp (List.mem_of_getElem? hb);obtain⟨j,hj,rfl⟩:=List.getElem_of_mem hm;have hj':j<ts.length:=by lia
     have e3:t=ts[j]:=by
      have e4:=hf j as[j] ts[j] (by simp [hj]) (by simp [hj']);rw [List.getElem?_map,hb]at ht;simp at ht;rw [←ht,e4]
     rw [e3];exact(hp j as[j] ts[j] (by simp [hj]) (by simp [hj'])).2
    exact q _ _ (qu hn) (qas hs hn hR) fun _=>qbr (qf.refl _) hn hR
   ·cases h
  by_cases hz:xs.length<64
  ·rw [if_pos hz]at h;cases e:ints? xs with
   |some ns=>
    rw [e]at h;cases h;obtain⟨rfl,rfl⟩:=r1.ints e;refine .inl ⟨a,ns,rfl,by rw [hK];exact h1,by simpa using hz,fun p ms hp pm pw=>?_⟩;rw [qhN pm pw];exact q _ _ (qu hp) (qas hs hp (qh.ofInts _)) fun _=>qbr (qf.refl _) hp (qh.ofInts _)
   |none=>
    rw [e]at h;cases e2:pairs? xs with
    |none=>rw [e2]at h;exact .inr (.inr (big h))
    |some ps=>
     rw [e2]at h;cases h;obtain⟨rfl,as,rfl,hl,hp⟩:=r1.pairs e2;by_cases h2:2≤ps.length
     ·exact .inr (.inr (big (qit e2 h2 hz)))
     ·have e3:zG ps=ps:=by
       match ps,h2 with
       | [],_=>rfl
       | [_],_=>rfl
       |_::_::r,h=>exact absurd (show 2≤r.length+1+1 by lia) h
      refine .inr (.inl ⟨a,as.map V.ref,rfl,by rw [hK];exact h1,by rw [List.length_map];lia,fun p hn=>?_⟩);rw [e3]at q;exact q _ _ (qu hn) (qas hs hn r1) fun _=>qbr (qf.refl _) hn r1
  ·rw [if_neg hz]at h;exact .inr (.inr (big h))
theorem qgg(hK:X.K=g.K)(hc:X.calm=true)(mx:Bool):qz X (.builtin (if mx then "max" else "min")) (rB1 g (if mx then .max else .min)):=by
 have two:∀{S:Sh}{H:Hp}{x y:D}{vs:List V}{i j:Int},x=.int i→y=.int j→qbW g H S [x,y] vs→vs=[.int i,.int j]:=by
  intro S H x y vs i j hx hy rs;subst hx hy;cases rs with
  |cons r1 rs=>
   cases rs with
   |cons r2 rs=>cases rs;rw [r1.int,r2.int]
 have inv:∀{b:B1}{ds:List D}{d:D},b1 b ds=.ok d→(∃x,ds=[x]∧b11 b x=.ok d)∨∃x y,ds=[x,y]∧b12 b x y=.ok d:=by
  intro b ds d h
  match ds,h with
  | [x],h=>exact .inl ⟨x,rfl,h⟩
  | [x,y],h=>exact .inr ⟨x,y,rfl,h⟩
  | [],h=>cases h
  |_::_::_::_,h=>cases h
 cases mx
 ·exact qbk (qma hc) fun S ds d vs H Q hs rs h q=>by
   rcases inv h with ⟨x,rfl,h'⟩|⟨x,y,rfl,h'⟩
   ·cases h'
   ·obtain⟨i,j,hx,hy,h'⟩:=qjl h';cases h';exact⟨i,j,two hx hy rs,q _ _ (qf.refl _) (.int _) (by simp)⟩
 ·exact qbk (qlt hc) fun S ds d vs H Q hs rs h q=>by
   rcases inv h with ⟨x,rfl,h'⟩|⟨x,y,rfl,h'⟩
   ·cases h'
   ·obtain⟨i,j,hx,hy,h'⟩:=qjl h';cases h';exact⟨i,j,two hx hy rs,q _ _ (qf.refl _) (.int _) (by simp)⟩
theorem qfW{S:Sh}{H:Hp}{vs:List V}{i:Int}(rs:qbW g H S [.int i] vs):vs=[.int i]:=by
 cases rs with
 |cons r1 rs=>cases rs;rw [r1.int]
theorem qlc{S:Sh}{H:Hp}{vs:List V}{i:Bool}(rs:qbW g H S [.bl i] vs):vs=[.bl i]:=by
 cases rs with
 |cons r1 rs=>cases rs;rw [r1.bl]
theorem qrA:qz X (.builtin "abs") (rB1 g .abs):=qbk qmU fun S ds d vs H Q hs rs h q=>by
 obtain⟨x,rfl,h'⟩:=qby (fun _ _=>rfl) h;rcases qfY h' with ⟨i,rfl,h'⟩|⟨i,rfl,h'⟩
 ·cases h';exact⟨i,qfW rs,q _ _ (qf.refl _) (.int _) (by simp)⟩
 ·cases h'
theorem qsa:qz X (.type "int") (rB1 g .int):=qbk qlQ fun S ds d vs H Q hs rs h q=>by
 obtain⟨x,rfl,h'⟩:=qby (fun _ _=>rfl) h;rcases qfY h' with ⟨i,rfl,h'⟩|⟨i,rfl,h'⟩
 ·cases h';exact .inl ⟨i,qfW rs,q _ _ (qf.refl _) (.int _) (by simp)⟩
 ·cases h';exact .inr ⟨i,qlc rs,q _ _ (qf.refl _) (.int _) (by simp)⟩
theorem qpu:qz X (.type "bool") (rB1 g .bool):=qbk qjC fun S ds d vs H Q hs rs h q=>by
 obtain⟨x,rfl,h'⟩:=qby (fun _ _=>rfl) h;rcases qfY h' with ⟨i,rfl,h'⟩|⟨i,rfl,h'⟩
 ·cases h';exact .inl ⟨i,qfW rs,q _ _ (qf.refl _) (.bl _) (by simp)⟩
 ·cases h';exact .inr ⟨i,qlc rs,q _ _ (qf.refl _) (.bl _) (by simp)⟩
theorem qsx(hK:X.K=g.K)(hc:X.calm=true):qz X (.builtin "sum") (rB1 g .sum):=qbk (qlW hc) fun S ds d vs H Q hs rs h q=>by
 obtain⟨x,rfl,h'⟩:=qby (fun _ _=>rfl) h;obtain⟨xs,rfl,h'⟩:=qdx h';obtain⟨ns,e,h'⟩:=qcr h';cases h';cases rs with
 |cons r rs=>
  cases rs;obtain⟨a,us,rfl,h1,r1⟩:=r.lst;obtain⟨rfl,rfl⟩:=r1.ints e;exact⟨a,ns,rfl,by rw [hK];exact h1,q _ _ (qf.refl _) (.int _) (by simp)⟩
theorem qlG(hK:X.K=g.K)(hu:X.A.units+64<cLine):∀b,(X.calm=true∨b=.len∨b=.abs∨b=.tuple∨b=.list∨b=.int∨b=.bool)→qz X (b1V b) (rB1 g b)
 | .len,_=>qqu hK
 | .tuple,_=>qmT hK
 | .list,_=>qpE hK
 | .sorted,_=>qmg hK hu
 | .all,h=>qgh hK (by simpa using h) true
 | .any,h=>qgh hK (by simpa using h) false
 | .sum,h=>qsx hK (by simpa using h)
 | .min,h=>qgg hK (by simpa using h) false
 | .max,h=>qgg hK (by simpa using h) true
 | .abs,_=>qrA
 | .int,_=>qsa
 | .bool,_=>qpu
theorem qdI{H:Hp}{ds:List D}{vs:List V}(r:qh g H ds vs):ds.isEmpty=vs.isEmpty:=by cases r<;>rfl
theorem qpr(hK:X.K=g.K){S:Sh}{H:Hp}{d:D}{v:V}{b:Bool}(r:zE g H S d v)(e:truth d=.ok b):qmP X.K v H b:=by
 cases d with
 |non=>cases r.rep;cases e;exact rfl
 |bl c=>cases r.rep;cases e;exact rfl
 |int i=>cases r.rep;cases e;exact rfl
 |tup xs=>
  cases e;obtain⟨a,vs,rfl,h1,r1⟩:=r.tup;exact .inr (.inl ⟨vs,by rw [hK];exact h1,by rw [qdI r1]⟩)
 |lst xs=>
  cases e;obtain⟨a,vs,rfl,h1,r1⟩:=r.lst;exact .inl ⟨vs,by rw [hK];exact h1,by rw [qdI r1]⟩
 |_=>cases e
theorem qqg(hK:X.K=g.K):qz X (.builtin "isinstance") (fun xs H Q=>∃S d v n t,xs=[v,.ty n]∧zE g H S d v∧tyD d=some t∧n∈["int","bool","str","list","tuple"]∧Q (.bl (qeU t n)) H):=by
 intro pins s σ H xs us Q I r h;obtain⟨S,d,v,n,t,rfl,rd,ht,hn,q⟩:=h;obtain⟨u,cu,rfl,rx,rc⟩:=r.two;cases rc;have fin:∀tk,EP X pins σ Q (.bool (qeU t n)) {s with toks:=tk}:=fun tk=>⟨.bl _,H,I.tok tk,rfl,q⟩
 have kb:t∈["NoneType","bool","int","str","list","tuple","dict"]→PySem.W.kitOne X.K (.type t) (.type n)=some (qeU t n):=fun h=>qqt h hn
 cases d with
 |non=>cases ht;cases rd.rep;exact qba I rx .non (kb (by simp)) fin
 |bl c=>cases ht;cases rd.rep;exact qba I rx (.bl c) (kb (by simp)) fin
 |int i=>cases ht;cases rd.rep;exact qba I rx (.int i) (kb (by simp)) fin
 |str i=>cases ht;cases rd.rep;exact qba I rx (.str i) (kb (by simp)) fin
 |tup xs=>
  cases ht;obtain⟨a,vs,rfl,h1,_⟩:=rd.tup;cases rx;obtain⟨its,_,⟨o,e1,e2,_⟩,_⟩:=I.tuple (by rw [hK];exact h1);exact PySem.W.kia_one PySem.W.kitx_tuple I.kIn ⟨o,e1,e2⟩ (kb (by simp)) (fun z=>nomatch z) fin
 |lst xs=>
  cases ht;obtain⟨a,vs,rfl,h1,_⟩:=rd.lst;cases rx;obtain⟨its,_,pl,_⟩:=I.list (by rw [hK];exact h1);obtain⟨o,e1,e2,_⟩:=pl.isList;exact PySem.W.kia_one PySem.W.kitx_list I.kIn ⟨o,e1,e2⟩ (kb (by simp)) (fun z=>nomatch z) fin
 |dic=>
  cases ht;cases rd.rep with
  |dic h1=>exact qba I rx (.dK h1) (kb (by simp)) fin
 |_=>cases ht
end
theorem qqm{o:O2}{a b:Int}{c:Str}:opI o a b≠.ex c:=by
 cases o<;>simp only [opI]<;>(try split)<;>intro h<;>cases h
theorem qqz{o:O2}{a b:D}{c:Str}:op2 o a b≠.ex c:=by
 unfold op2;split
 ·exact qqm
 all_goals ((try split)<;>intro h<;>cases h)
theorem qqe{n:Bool}{a b:D}{c:Str}:isB n a b≠.ex c:=by
 unfold isB;split<;>intro h<;>cases h
theorem qpf{o:C2}{a b:D}{c:Str}:qi o a b≠.ex c:=by
 unfold qi;split<;>(try split)<;>(try split)<;>intro h<;>first|cases h|exact qqe h
theorem qmk{a:D}{c:Str}:truth a≠.ex c:=by
 unfold truth;split<;>intro h<;>cases h
theorem qrd{a b:D}{c:Str}:ixD a b≠.ex c:=by
 unfold ixD;split<;>(try split)<;>intro h<;>cases h
theorem qrw{a:D}{l h:Option Int}{c:Str}:slD a l h≠.ex c:=by
 unfold slD;split<;>(try split)<;>intro h<;>cases h
theorem qei{x:D}{k:List D→R D}{c:Str}(h:∀xs,k xs≠.ex c):qcl x k≠.ex c:=by
 cases x with
 |lst xs=>exact h xs
 |_=>intro z;cases z
theorem qhr{x:D}{f:Int→R D}{q:Bool→R D}{c:Str}(h:∀i,f i≠.ex c)(h':∀i,q i≠.ex c):ibR x f q≠.ex c:=by
 cases x with
 |int i=>exact h i
 |bl i=>exact h' i
 |_=>intro z;cases z
theorem qkG{x y:D}{k:Int→Int→R D}{c:Str}(h:∀i j,k i j≠.ex c):iiR x y k≠.ex c:=by
 cases x with
 |int i=>
  cases y with
  |int j=>exact h i j
  |_=>intro z;cases z
 |_=>intro z;cases z
theorem qbd{α β:Type}{o:Option α}{k:α→R β}{c:Str}(h:∀a,k a≠.ex c):qaq o k≠.ex c:=by
 cases o with
 |some a=>exact h a
 |none=>intro z;cases z
theorem qaf{α:Type}{a:α}{c:Str}:R.ok a≠.ex c:=by intro z;cases z
theorem qbV{α:Type}{c:Str}:(R.no:R α)≠.ex c:=by intro z;cases z
theorem qhS{xs:List D}{c:Str}:qay xs≠.ex c:=by
 unfold qay;split
 rotate_left
 ·exact qbV
 refine qbd fun _=>?_
 split
 ·exact qaf
 ·exact qbV
theorem qrx{b:B1}{d:D}{c:Str}:b11 b d≠.ex c:=by
 cases b with
 |len=>exact qbd fun _=>qaf
 |tuple=>exact qbd fun _=>qaf
 |list=>exact qbd fun _=>qaf
 |all=>exact qei fun _=>qbd fun _=>qaf
 |any=>exact qei fun _=>qbd fun _=>qaf
 |sorted=>
  by_cases h:∃xs,d=.tup xs
  ·obtain⟨xs,rfl⟩:=h;show (if xs.length<64 then qaq (ints? xs) fun ns=>R.ok (D.lst ((sortI ns).map D.int))else R.no)≠R.ex c;split
   ·exact qbd fun _=>qaf
   ·exact qbV
  have e:b11 .sorted d=qcl d fun xs=>if xs.length<64 then (match ints? xs with
    |some ns=>.ok (.lst ((sortI ns).map D.int))
    |none=>match pairs? xs with
     |some ps=>.ok (.lst ((zG ps).map pairD))
     |none=>qay xs)else qay xs:=by cases d<;>first|exact absurd ⟨_,rfl⟩ h|rfl
  rw [e];refine qei fun _=>?_
  split
  ·split
   ·exact qaf
   ·split
    ·exact qaf
    ·exact qhS
  ·exact qhS
 |abs=>exact qhr (fun _=>qaf) fun _=>qbV
 |int=>exact qhr (fun _=>qaf) fun _=>qaf
 |bool=>exact qhr (fun _=>qaf) fun _=>qaf
 |sum=>exact qei fun _=>qbd fun _=>qaf
 |min=>exact qbV
 |max=>exact qbV
theorem qtn{b:B1}{ds:List D}{c:Str}:b1 b ds≠.ex c:=by
 match ds with
 | []=>exact qbV
 | [_]=>exact qrx
 | [x,y]=>
  cases b with
  |min=>exact qkG fun _ _=>qaf
  |max=>exact qkG fun _ _=>qaf
  |_=>exact qbV
 |_::_::_::_=>exact qbV
structure qck(g:Gc)(c:Cc)(e:E)(S:Sh)(H:Hp)(d:D)(v:V)(H':Hp):Prop where
 same:qf H H'
 rb:zE g H' S d v
 st:esc e=true→Rep g (hid H' S) d v
 fr:fresh c e=true→Fr g H S H' d v
structure SE(g:Gc)(c:Cc)(τ:Env)(σ:L2.St)(H:Hp)(S:Sh):Prop where
 len:τ.length=σ.length
 val:∀(i:Nat) (d:D),τ[i]? = some (some d)→∃v,σ[i]? = some (some v)∧zE g H S d v∧∀x,c.N[i]? = some x→c.own.contains x=false→Rep g (hid H S) d v
 sub:Sub S H
theorem SE.up{g:Gc}{c:Cc}{τ:Env}{σ:L2.St}{H H':Hp}{S:Sh}(s:SE g c τ σ H S)(e:qf H H'):SE g c τ σ H' S:=
 ⟨s.len,fun i d h=>let ⟨v,h1,h2,h3⟩:=s.val i d h;⟨v,h1,h2.mono e,fun x a b=>(h3 x a b).mono (qk e)⟩,s.sub.same e⟩
noncomputable def tR{α:Type}(g:Gc)(E:XK)(H:Hp)(r:R α)(k:α→Prop):Prop:=match r with
 | .ok a=>k a
 | .ex c=>∀H' C,qf H H'→g.clA c=some C→E (.ref C) none H'
 | .no=>False
theorem tR.up{α:Type}{g:Gc}{E:XK}{H H':Hp}{r:R α}{k:α→Prop}(h:tR g E H r k)(e:qf H H'):tR g E H' r k:=by
 cases r with
 |ok a=>exact h
 |ex c=>exact fun H2 C e2 hc=>h H2 C (e.trans e2) hc
 |no=>exact h
theorem tR.imp{α:Type}{g:Gc}{E:XK}{H:Hp}{r:R α}{k k':α→Prop}(h:tR g E H r k)(i:∀a,k a→k' a):tR g E H r k':=by
 cases r with
 |ok a=>exact i a h
 |ex c=>exact h
 |no=>exact h
section
variable(w:W)(g:Gc)(c:Cc)(E:XK)
noncomputable def tE(e:EV.E):TE:=fun σ H Q=>∃τ S,SE g c τ σ H S∧tR g E H (evE w e τ) fun d=>∀v H',qck g c e S H d v H'→Q v H'
noncomputable def tT(t:T):TT:=fun σ H Q=>∃τ S,SE g c τ σ H S∧tR g E H (evT w t τ) fun b=>∀H',qf H H'→Q b H'
noncomputable def tA(es:Es):TA:=fun σ H Q=>∃τ S,SE g c τ σ H S∧tR g E H (zx w es τ) fun ds=>∀vs H',qf H H'→qbW g H' S ds vs→(qcK es=true→qh g (hid H' S) ds vs)→Q vs H'
noncomputable def tOe(o:OE):TO:=fun σ H Q=>∃τ S,SE g c τ σ H S∧tR g E H (evO w o τ) fun i=>∀H',qf H H'→Q i H'
noncomputable def Goes(g:Gc)(J:L2.It)(ds:List D)(H:Hp)(S:Sh):Prop:=
 (∀i,ds.length≤i→J.stop i H)∧∀i d,ds[i]? = some d→J.go i H∧∀x H',J.yld i H x H'→qf H H'∧Rep g (hid H' S) d x
noncomputable def tIt(it:It):TI:=fun σ H R=>∃τ S,SE g c τ σ H S∧tR g E H (evI w it τ) fun ds=>∀J H',qf H H' →
 (∀H2 S2,qf H' H2→qf (hid H' S) (hid H2 S2)→Sub S2 H2→Goes g J ds H2 S2)→(owned it=false→∀H2 S2,qf (hid H' S) (hid H2 S2)→Sub S2 H2→Goes g J ds H2 S2)→R J H'
end
theorem PE.imp{X:Cx}{e:Expr}{t t':TE}(h:PE X e t)(i:∀σ H Q,t' σ H Q→t σ H Q):PE X e t':=fun pins s σ H Q I q=>h pins s σ H Q I (i _ _ _ q)
theorem PT.imp{X:Cx}{e:Expr}{t t':TT}(h:PT X e t)(i:∀σ H Q,t' σ H Q→t σ H Q):PT X e t':=fun pins s σ H Q I q=>h pins s σ H Q I (i _ _ _ q)
theorem PW.imp{X:Cx}{e:Expr}{t t':TT}(h:PW X e t)(i:∀σ H Q,t' σ H Q→t σ H Q):PW X e t':=fun wh pins s σ H Q I q=>h wh pins s σ H Q I (i _ _ _ q)
theorem PA.imp{X:Cx}{e:List Expr}{t t':TA}(h:PA X e t)(i:∀σ H Q,t' σ H Q→t σ H Q):PA X e t':=fun pos pins s σ H Q I q=>h pos pins s σ H Q I (i _ _ _ q)
theorem PO.imp{X:Cx}{e:Option Expr}{t t':TO}(h:PO X e t)(i:∀σ H Q,t' σ H Q→t σ H Q):PO X e t':=fun pins s σ H Q I q=>h pins s σ H Q I (i _ _ _ q)
theorem PI.imp{X:Cx}{tg e:Expr}{t t':TI}(h:PI X tg e t)(i:∀σ H Q,t' σ H Q→t σ H Q):PI X tg e t':=fun pins s σ H Q I q=>h pins s σ H Q I (i _ _ _ q)
theorem PS.imp{X:Cx}{e:Stmt}{t t':TS}(h:PS X e t)(i:∀D σ H,t' D σ H→t D σ H):PS X e t':=fun pins s σ H Q I q=>h pins s σ H Q I (i _ _ _ q)
theorem PSs.imp{X:Cx}{e:List Stmt}{t t':TS}(h:PSs X e t)(i:∀D σ H,t' D σ H→t D σ H):PSs X e t':=fun pins s σ H Q I q=>h pins s σ H Q I (i _ _ _ q)
section
variable{w:W}{g:Gc}{c:Cc}{E:XK}{τ:Env}{σ:L2.St}{H H0:Hp}{S:Sh}
theorem za{α:Type}{e:EV.E}{f:D→R α}{P:α→Prop}{Q:VK}(se:SE g c τ σ H S)(h:tR g E H ((evE w e τ).bind f) P)(k:∀d v H',evE w e τ=.ok d→qck g c e S H d v H'→tR g E H' (f d) P→Q v H'):tE w g c E e σ H Q:=by
 refine⟨τ,S,se,?_⟩;cases q:evE w e τ with
 |ok d=>rw [q]at h;exact fun v H' p=>k d v H' q p (tR.up h p.same)
 |ex x=>rw [q]at h;exact h
 |no=>rw [q]at h;exact h
theorem qkj{α:Type}{t:T}{f:Bool→R α}{P:α→Prop}{Q:Bool→Hp→Prop}(se:SE g c τ σ H S)(h:tR g E H ((evT w t τ).bind f) P)(k:∀b H',evT w t τ=.ok b→qf H H'→tR g E H' (f b) P→Q b H'):tT w g c E t σ H Q:=by
 refine⟨τ,S,se,?_⟩;cases q:evT w t τ with
 |ok d=>rw [q]at h;exact fun H' p=>k d H' q p (tR.up h p)
 |ex x=>rw [q]at h;exact h
 |no=>rw [q]at h;exact h
theorem qeA{α:Type}{es:Es}{f:List D→R α}{P:α→Prop}{Q:List V→Hp→Prop}(se:SE g c τ σ H S)(h:tR g E H ((zx w es τ).bind f) P)
  (k:∀ds vs H',zx w es τ=.ok ds→qf H H'→qbW g H' S ds vs→(qcK es=true→qh g (hid H' S) ds vs)→tR g E H' (f ds) P→Q vs H'):tA w g c E es σ H Q:=by
 refine⟨τ,S,se,?_⟩;cases q:zx w es τ with
 |ok d=>rw [q]at h;exact fun vs H' p r r'=>k d vs H' q p r r' (tR.up h p)
 |ex x=>rw [q]at h;exact h
 |no=>rw [q]at h;exact h
theorem qrh{α:Type}{o:OE}{f:Option Int→R α}{P:α→Prop}{Q:Option Int→Hp→Prop}(se:SE g c τ σ H S)(h:tR g E H ((evO w o τ).bind f) P)(k:∀b H',evO w o τ=.ok b→qf H H'→tR g E H' (f b) P→Q b H'):tOe w g c E o σ H Q:=by
 refine⟨τ,S,se,?_⟩;cases q:evO w o τ with
 |ok d=>rw [q]at h;exact fun H' p=>k d H' q p (tR.up h p)
 |ex x=>rw [q]at h;exact h
 |no=>rw [q]at h;exact h
theorem qck.of{e:EV.E}{d:D}{v:V}{H':Hp}(s:qf H H')(r:Rep g (hid H' S) d v)(f:fresh c e=false):qck g c e S H d v H':=⟨s,.inl r,fun _=>r,fun z=>by rw [f]at z;cases z⟩
theorem qck.new{e:EV.E}{d:D}{v:V}{H':Hp}(s:qf H H')(r:Rep g (hid H' S) d v)(f:Fr g H S H' d v):qck g c e S H d v H':=⟨s,.inl r,fun _=>r,fun _=>f⟩
theorem Fr.low{d:D}{v:V}{H1 H':Hp}(f:Fr g H1 S H' d v)(e:qf H H1):Fr g H S H' d v:=by
 obtain⟨a,vs,ds,h1,h2,h3,h4,h5⟩:=f;exact⟨a,vs,ds,h1,h2,e.free h3,h4,h5⟩
end
noncomputable def b1N:B1→Str
 | .len=>"len"
 | .tuple=>"tuple"
 | .list=>"list"
 | .sorted=>"sorted"
 | .all=>"all"
 | .any=>"any"
 | .sum=>"sum"
 | .min=>"min"
 | .max=>"max"
 | .abs=>"abs"
 | .int=>"int"
 | .bool=>"bool"
theorem qiR:∀b,bootBuiltins (b1N b)=some (b1V b)
 | .len | .tuple | .list | .sorted | .all | .any | .sum | .min | .max | .abs | .int | .bool=>by decide +kernel
noncomputable def spF(w:W)(g:Gc)(x:Str)(fr:Bool):Sp:=fun vs H Q E=>∃S ds,Sub S H∧qh g (hid H S) ds vs ∧
 tR g E H (w.call x ds) fun d=>∀v H',qf H H'→Rep g (hid H' S) d v→(fr=true→Fr g H S H' d v)→Q v H'
structure qfz(w:W)(g:Gc)(P:Program)(wl:World)(mg:Str→Option Value)(base:Heap)(A:Around)(calm:Bool)(x:Str)(f:Addr)(fr:Bool):Prop where
 at_:mg x=some (.ref f)
 kp:PySem.W.keepIn g.K (.ref f)=true
 fn:∃k fd ps,Binds g.K fd ps []∧((calm=true∧qdU P wl g.K mg base (CX1 P wl) k f fd ps (spF w g x fr)∧qbi k A)∨(calm=false∧qjx P wl g.K mg base (CX1 P wl) k f fd ps (spF w g x fr)∧qfB k A))
noncomputable def GM(w:W)(g:Gc)(P:Program)(wl:World)(mg:Str→Option Value)(base:Heap)(A:Around)(calm:Bool)(x:Str):GK→Prop
 | .fn fr=>∃f,g.fnA x=some f∧qfz w g P wl mg base A calm x f fr
 | .val=>∃u v d,mg x=some u∧RelV v u∧w.glb x=some d∧∀H,Rep g H d v
 | .bi b=>mg x=none∧x=b1N b∧∃id,b1V b=.builtin id
 | .rng=>mg x=none∧x = "range"
 | .enum=>mg x=none∧x = "enumerate"
 | .zip=>mg x=none∧x = "zip"
 | .isi=>mg x=none∧x = "isinstance"
 | .ty n b=>mg x=none∧bootBuiltins x=some (.type n)∧(n∈["int","bool","str","list","tuple"]∨n = "ValueError")∧∀b',b=some b'→x=b1N b'∧b1V b'=.type n
 | .exc=>∃C,mg x=some (.ref C)∧g.clA x=some C
 | .exk=>∃C,mg x=some (.ref C)∧g.clA x=some C
 | .set=>mg x=none∧bootBuiltins x=some (.type "set")
structure XO(w:W)(g:Gc)(c:Cc)(E:XK)(X:Cx):Prop where
 K:X.K=g.K
 nm:X.env.scope.names=c.nm
 N:X.N=c.N
 nd:c.N.Nodup
 calm:c.calm=true→X.calm=true
 units:X.A.units+64<cLine
 fn:∀x,(c.fnc=true∨c.oc.contains x=true)→X.fn x=true
 kind:X.env.scope.kind=.function
 pass:Passes (CX1 X.prog X.w) X E
 gok:∀x k,c.G.lookup x=some k→GM w g X.prog X.w X.mg X.base X.A X.calm x k
 fns:X.calm=true→∀x f,g.fnA x=some f→∃fr,qfz w g X.prog X.w X.mg X.base X.A X.calm x f fr
 -- what isinstance says of a caught error
 sub:∀k cl b,w.sub k cl=some b→∃C cv,g.clA k=some C∧qaI g.K C∧PySem.W.kitOne g.K (.ref C) cv=some b∧match cl with
  | .ty n=>n = "ValueError"∧cv=.type n
  | .ex x=>∃D,g.clA x=some D∧cv=.ref D
section
variable{w:W}{g:Gc}{c:Cc}{E:XK}{X:Cx}
theorem zB{x:Str}{i:Nat}(h:loc c x=some i):c.N[i]? = some x∧(c.nm.lookup x=some .local∨c.nm.lookup x=some .cell∨c.nm.lookup x=some .free)∧(x==("__debug__" : Str))=false∧(x==("__classdict__" : Str))=false:=by
 unfold loc at h;split at h
 ·cases h
 ·rename_i hd
  have hd':(x==("__debug__" : Str))=false∧(x==("__classdict__" : Str))=false:=by simpa using hd
  have fin:∀{j},(if c.N[j]? = some x then some j else none)=some i→c.N[i]? = some x:=fun {j} z=>by
   split at z
   ·cases z;assumption
   ·cases z
  split at h
  ·rename_i q;exact⟨fin h,.inl q,hd'⟩
  ·rename_i q;exact⟨fin h,.inr (.inl q),hd'⟩
  ·rename_i q;exact⟨fin h,.inr (.inr q),hd'⟩
  ·cases h
theorem qy{x:Str}{k:GK}(h:glob c x=some k):c.nm.lookup x=some .globalImplicit∧c.G.lookup x=some k∧(x==("__debug__" : Str))=false∧x≠"__name__":=by
 unfold glob at h;split at h
 ·cases h
 ·rename_i hd
  have hd':(x==("__debug__" : Str))=false∧(x==("__name__" : Str))=false:=by simpa using hd
  split at h
  ·rename_i q;exact⟨q,h,hd'.1,by simpa using hd'.2⟩
  ·cases h
theorem XO.gl(O:XO w g c E X){x:Str}{k:GK}(h:glob c x=some k):Gl X x:=by
 show X.env.scope.names.lookup x=_;rw [O.nm];exact(qy h).1
theorem XO.gm(O:XO w g c E X){x:Str}{k:GK}(h:glob c x=some k):GM w g X.prog X.w X.mg X.base X.A X.calm x k:=O.gok x k (qy h).2.1
theorem qg{e:Expr}{es:List Expr}{env:PySem.Env}(h:isStar e=false):starEach (e::es) env=(false,eval e env)::starEach es env:=by
 cases e<;>first|rfl|(simp [isStar]at h)
theorem qeV{es:List Expr}{env:PySem.Env}{pos:Pos}:(∀e∈es,isStar e=false)→(backTo pos (starEach es env)).any (·.1)=false:=by
 induction es with
 |nil=>intro _;rfl
 |cons e es ih=>
  intro h;rw [qg (h e List.mem_cons_self)];show (false||(backTo pos (starEach es env)).any (·.1))=false;rw [ih fun e he=>h e (List.mem_cons_of_mem _ he)]
  rfl
theorem qaZ:∀{n:Nat}{es:List Expr}{ir:Es},cEs n c es=some ir→∀e∈es,isStar e=false
 | 0,_,_,h=>by simp [cEs]at h
 |n+1,[],_,_=>by simp
 |n+1,e::es,ir,h=>by
  simp only [cEs]at h;cases hs:isStar e with
  |true=>simp [hs]at h
  |false=>
   simp only [hs,Bool.false_eq_true,if_false,Option.bind_eq_bind,Option.bind_eq_some_iff]at h;obtain⟨_,_,r,hr,_⟩:=h;intro x hx;rcases List.mem_cons.mp hx with rfl|hx
   ·exact hs
   ·exact qaZ hr x hx
theorem qhp{x:Str}{f:Addr}{fr:Bool}{e:Expr}{es:List Expr}{p pos:Pos}{t:TA}(O:XO w g c E X)(C:qfz w g X.prog X.w X.mg X.base X.A X.calm x f fr)(hg:Gl X x)(hd:(x==("__debug__" : Str))=false)(ha:PA X (e::es) t)
  (hs:∀z∈e::es,isStar z=false):PE X (.Call (.Name x p) (e::es) [] pos) (qjw (spF w g x fr) [] E t):=by
 obtain⟨k,fd,ps,hb,h⟩:=C.fn;have he:=qg (es:=es) (env:=X.env) (hs e List.mem_cons_self);have hp:=qeV (env:=X.env) (pos:=pos) fun z hz=>hs z (List.mem_cons_of_mem _ hz)
 rw [←O.K]at hb h;rcases h with ⟨_,F,r⟩|⟨_,F,r⟩
 ·exact qpJ F r hg C.at_ (by rw [O.K];exact C.kp) hb .nil O.pass ha hd he hp
 ·exact qmE F r hg C.at_ (by rw [O.K];exact C.kp) hb .nil O.pass ha hd he hp
end
end EV
namespace L2
open PySem PySem.Spec PyProof.Rows
section
variable{X:Cx}
end
end L2
namespace EV
open PySem PySem.Spec PySem.P PyProof.Rows L2
section
variable{w:W}{g:Gc}{c:Cc}{E:XK}{X:Cx}{a b d f:Expr}{ia ib id' if':EV.E}{pos p2:Pos}{ta tb:T}
theorem qgZ{e:Expr}{v:V}{dd:D}(h:PE X e (tC v))(r:∀H,Rep g H dd v):PE X e (tE w g c E (.con dd)):=PE.imp h fun σ H Q ⟨τ,S,se,k⟩=>k v H (qck.of (qf.refl _) (r _) rfl)
theorem qtg{x:Str}{i:Nat}(O:XO w g c E X)(h:loc c x=some i):PE X (.Name x pos) (tE w g c E (if c.own.contains x then .own i else .var i)):=by
 obtain⟨h1,h2,h3,h4⟩:=zB h;refine PE.imp (qfb (i:=i) (by rw [O.N];exact h1) (by unfold Vis;rw [O.nm];exact h2) h3 h4) fun σ H Q ⟨τ,S,se,k⟩=>?_
 have key:∀e,evE w e τ=zY τ i→fresh c e=false→(esc e=true→c.own.contains x=false)→tR g E H (evE w e τ) (fun d=>∀v H',qck g c e S H d v H'→Q v H')→qhj i σ H Q:=fun e e1 e2 e3 k=>by
  rw [e1]at k;unfold zY at k;cases q:τ[i]? with
  |none=>rw [q]at k;exact k.elim
  |some o=>
   cases o with
   |none=>rw [q]at k;exact k.elim
   |some d=>
    rw [q]at k;obtain⟨v,z1,z2,z3⟩:=se.val i d q;exact⟨v,z1,k v H ⟨qf.refl _,z2,fun z=>z3 x h1 (e3 z),fun z=>by rw [e2]at z;cases z⟩⟩
 cases ho:c.own.contains x with
 |true=>rw [ho]at k;exact key (.own i) (by simp [qX,zc,zb,zh,zf,qY,ze,zi,zg,qK,qB,qJ,qD,qF,qW,qI,qC,qw,qL,qH,qP,qr,qA,qR,qE,qx,qO,qN,qS,qM,qQ,qU,qV,qG,qT]) rfl (by intro z;cases z) k
 |false=>rw [ho]at k;exact key (.var i) (by simp [qX,zc,zb,zh,zf,qY,ze,zi,zg,qK,qB,qJ,qD,qF,qW,qI,qC,qw,qL,qH,qP,qr,qA,qR,qE,qx,qO,qN,qS,qM,qQ,qU,qV,qG,qT]) rfl (fun _=>ho) k
theorem qtE{x:Str}(O:XO w g c E X)(h:glob c x=some .val):PE X (.Name x pos) (tE w g c E (.glb x)):=by
 obtain⟨u,v,d,h1,h2,h3,h4⟩:=O.gm h;refine PE.imp (qek (O.gl h) h1 h2 (qy h).2.2.1) fun σ H Q ⟨τ,S,se,k⟩=>?_
 simp only [qX,zc,zb,zh,zf,qY,ze,zi,zg,qK,qB,qJ,qD,qF,qW,qI,qC,qw,qL,qH,qP,qr,qA,qR,qE,qx,qO,qN,qS,qM,qQ,qU,qV,qG,qT,h3]at k;exact k v H (qck.of (qf.refl _) (h4 _) rfl)
theorem qts{x:Str}{fr:Bool}(O:XO w g c E X)(h:glob c x=some (.fn fr)):PE X (.Name x pos) (tE w g c E (.fnv x)):=by
 obtain⟨f,h1,h2⟩:=O.gm h;refine PE.imp (qek (v:=.ref f) (O.gl h) h2.at_ rfl (qy h).2.2.1) fun σ H Q ⟨τ,S,se,k⟩=>?_
 simp only [qX,zc,zb,zh,zf,qY,ze,zi,zg,qK,qB,qJ,qD,qF,qW,qI,qC,qw,qL,qH,qP,qr,qA,qR,qE,qx,qO,qN,qS,qM,qQ,qU,qV,qG,qT]at k;exact k _ H (qck.of (qf.refl _) (.fn h1) rfl)
theorem qjm{τ:EV.Env}{e:EV.E}{d:D}(h:isL e=true)(he:evE w e τ=.ok d):qog d=true:=by
 cases e<;>first|(cases h;done)|skip
 ·simp only [qX,zc,zb,zh,zf,qY,ze,zi,zg,qK,qB,qJ,qD,qF,qW,qI,qC,qw,qL,qH,qP,qr,qA,qR,qE,qx,qO,qN,qS,qM,qQ,qU,qV,qG,qT]at he;cases q:zx w ‹_› τ with
  |ok ds=>rw [q]at he;cases he;rfl
  |ex z=>rw [q]at he;cases he
  |no=>rw [q]at he;cases he
 ·simp only [qX,zc,zb,zh,zf,qY,ze,zi,zg,qK,qB,qJ,qD,qF,qW,qI,qC,qw,qL,qH,qP,qr,qA,qR,qE,qx,qO,qN,qS,qM,qQ,qU,qV,qG,qT]at he;cases q:evI w ‹_› τ with
  |ok ds=>rw [q]at he;cases he;rfl
  |ex z=>rw [q]at he;cases he
  |no=>rw [q]at he;cases he
 ·simp only [qX,zc,zb,zh,zf,qY,ze,zi,zg,qK,qB,qJ,qD,qF,qW,qI,qC,qw,qL,qH,qP,qr,qA,qR,qE,qx,qO,qN,qS,qM,qQ,qU,qV,qG,qT]at he;cases q:evI w ‹_› τ with
  |ok ds=>
   rw [q]at he;simp only [R.bind_ok]at he;split at he
   ·cases he
   ·generalize zA _ _ _ _=r at he;cases r with
    |ok o=>cases he;rfl
    |ex z=>cases he
    |no=>cases he
  |ex z=>rw [q]at he;cases he
  |no=>rw [q]at he;cases he
theorem qud(O:XO w g c E X){op:Operator}{o:O2}(ho:o2 op=some o)(ha:PE X a (tE w g c E ia))(hb:PE X b (tE w g c E ib)):PE X (.BinOp a op b pos) (tE w g c E (.op o ia ib)):=
 PE.imp (qtz (qqE O.K ho) ha hb) fun σ H Q ⟨τ,S,se,k⟩=>by
  simp only [qX,zc,zb,zh,zf,qY,ze,zi,zg,qK,qB,qJ,qD,qF,qW,qI,qC,qw,qL,qH,qP,qr,qA,qR,qE,qx,qO,qN,qS,qM,qQ,qU,qV,qG,qT]at k;refine za se k fun da va H1 e1 p1 k1=>za (se.up p1.same) k1 fun db vb H2 e2 p2 k2=>⟨S,da,db,(se.up (p1.same.trans p2.same)).sub,p1.rb.mono p2.same,p2.rb,?_⟩
  cases q:op2 o da db with
  |ok r=>
   rw [q]at k2;exact fun v H' s r f=>k2 v H' ⟨(p1.same.trans p2.same).trans s,.inl r,fun _=>r,fun z=>by
    simp only [fresh,Bool.or_eq_true,Bool.and_eq_true,beq_iff_eq]at z;refine(f ?_).low (p1.same.trans p2.same);rcases z with z|⟨rfl,z⟩
    ·exact qjm z.2 e1
    ·have:=qjm z e2;cases db<;>first|(cases this;done)|skip
     cases da<;>first|rfl|(cases q;done)⟩
  |ex z=>exact qqz q
  |no=>rw [q]at k2;exact k2
theorem qsN(ha:PE X a (tE w g c E ia)):PE X (.UnaryOp .USub a pos) (tE w g c E (.neg ia)):=
 PE.imp (qkA qkS ha) fun σ H Q ⟨τ,S,se,k⟩=>by
  simp only [qX,zc,zb,zh,zf,qY,ze,zi,zg,qK,qB,qJ,qD,qF,qW,qI,qC,qw,qL,qH,qP,qr,qA,qR,qE,qx,qO,qN,qS,qM,qQ,qU,qV,qG,qT]at k;refine za se k fun da va H1 e1 p1 k1=>?_
  cases da with
  |int i=>exact⟨i,p1.rb.int,k1 _ _ (qck.of p1.same (.int _) rfl)⟩
  |_=>exact k1.elim
theorem qtN(ha:PE X a (tE w g c E ia)):PE X (.UnaryOp .Invert a pos) (tE w g c E (.inv ia)):=
 PE.imp (qkA qqb ha) fun σ H Q ⟨τ,S,se,k⟩=>by
  simp only [qX,zc,zb,zh,zf,qY,ze,zi,zg,qK,qB,qJ,qD,qF,qW,qI,qC,qw,qL,qH,qP,qr,qA,qR,qE,qx,qO,qN,qS,qM,qQ,qU,qV,qG,qT]at k;refine za se k fun da va H1 e1 p1 k1=>?_
  cases da with
  |int i=>exact⟨i,p1.rb.int,k1 _ _ (qck.of p1.same (.int _) rfl)⟩
  |_=>exact k1.elim
theorem qsB(ha:PE X a (tE w g c E ia)):PE X (.UnaryOp .Not a pos) (tE w g c E (.not ia)):=
 PE.imp (qqo ha) fun σ H Q ⟨τ,S,se,k⟩=>by
  simp only [qX,zc,zb,zh,zf,qY,ze,zi,zg,qK,qB,qJ,qD,qF,qW,qI,qC,qw,qL,qH,qP,qr,qA,qR,qE,qx,qO,qN,qS,qM,qQ,qU,qV,qG,qT]at k;refine za se k fun da va H1 e1 p1 k1=>?_
  cases da with
  |bl i=>exact⟨i,p1.rb.bl,k1 _ _ (qck.of p1.same (.bl _) rfl)⟩
  |_=>exact k1.elim
theorem qck.pass{e e':EV.E}{S:Sh}{H H1 H':Hp}{dd:D}{v:V}(s:qf H H1)(p:qck g c e S H1 dd v H')(h:esc e=true)(f:fresh c e'=false):qck g c e' S H dd v H':=qck.of (s.trans p.same) (p.st h) f
theorem qtC{rest:List Expr}{ir:EV.E}(ha:PE X a (tE w g c E ia))(hb:PE X (.BoolOp .And (b::rest) pos) (tE w g c E ir))(he:esc ir=true):PE X (.BoolOp .And (a::b::rest) pos) (tE w g c E (.and ia ir)):=
 PE.imp (qqS ha hb) fun σ H Q ⟨τ,S,se,k⟩=>by
  simp only [qX,zc,zb,zh,zf,qY,ze,zi,zg,qK,qB,qJ,qD,qF,qW,qI,qC,qw,qL,qH,qP,qr,qA,qR,qE,qx,qO,qN,qS,qM,qQ,qU,qV,qG,qT]at k;refine za se k fun da va H1 e1 p1 k1=>?_
  cases da with
  |bl i=>
   refine⟨i,p1.rb.bl,?_⟩;cases i with
   |true=>
    refine⟨τ,S,se.up p1.same,tR.imp k1 fun d hk v H' p=>hk v H' (p.pass p1.same he rfl)⟩
   |false=>exact k1 _ _ (qck.of p1.same (.bl _) rfl)
  |_=>exact k1.elim
theorem qtQ{rest:List Expr}{ir:EV.E}(ha:PE X a (tE w g c E ia))(hb:PE X (.BoolOp .Or (b::rest) pos) (tE w g c E ir))(he:esc ir=true):PE X (.BoolOp .Or (a::b::rest) pos) (tE w g c E (.or ia ir)):=
 PE.imp (qtr ha hb) fun σ H Q ⟨τ,S,se,k⟩=>by
  simp only [qX,zc,zb,zh,zf,qY,ze,zi,zg,qK,qB,qJ,qD,qF,qW,qI,qC,qw,qL,qH,qP,qr,qA,qR,qE,qx,qO,qN,qS,qM,qQ,qU,qV,qG,qT]at k;refine za se k fun da va H1 e1 p1 k1=>?_
  cases da with
  |bl i=>
   refine⟨i,p1.rb.bl,?_⟩;cases i with
   |false=>
    refine⟨τ,S,se.up p1.same,tR.imp k1 fun d hk v H' p=>hk v H' (p.pass p1.same he rfl)⟩
   |true=>exact k1 _ _ (qck.of p1.same (.bl _) rfl)
  |_=>exact k1.elim
theorem qaG{op:CmpOp}{b:Expr}(h:zd b=true):behindInMarks op b=false:=by cases b<;>first|rfl|(simp [zd]at h)
theorem qaE{o:C2}{S:Sh}{H:Hp}{da db:D}{va vb:V}{r:R Bool}{P:Bool→Prop}{Q:VK}(ra:zE g H S da va)(rb:zE g H S db vb)(q:tR g E H (qi o da db) P)(k:∀z,qi o da db=.ok z→P z→Q (.bl z) H):rCm g o va vb H Q:=by
 refine⟨S,da,db,ra,rb,?_⟩;cases e:qi o da db with
 |ok z=>rw [e]at q;exact k z e q
 |ex z=>exact qpf e
 |no=>rw [e]at q;exact q
theorem tR.bnd{α β:Type}{H:Hp}{r:R α}{f:α→R β}{P:β→Prop}(h:tR g E H (r.bind f) P):tR g E H r fun a=>tR g E H (f a) P:=by
 cases r with
 |ok a=>exact h
 |ex z=>exact h
 |no=>exact h
theorem qsZ(O:XO w g c E X){op:CmpOp}(ha:PE X a (tE w g c E ia))(hb:PE X b (tE w g c E ib))(hs:zd b=true):PE X (.Compare a [op] [b] pos) (tE w g c E (.cmp (c2 op) ia ib)):=
 PE.imp (qpT (qaF O.K O.units op) ha hb (qaG hs)) fun σ H Q ⟨τ,S,se,k⟩=>by
  simp only [qX,zc,zb,zh,zf,qY,ze,zi,zg,qK,qB,qJ,qD,qF,qW,qI,qC,qw,qL,qH,qP,qr,qA,qR,qE,qx,qO,qN,qS,qM,qQ,qU,qV,qG,qT]at k;refine za se k fun da va H1 e1 p1 k1=>za (se.up p1.same) k1 fun db vb H2 e2 p2 k2=>?_
  exact qaE (r:=.no) (p1.rb.mono p2.same) p2.rb (tR.bnd k2) fun z _ q=>q _ _ (qck.of (p1.same.trans p2.same) (.bl _) rfl)
theorem qrQ(O:XO w g c E X){op:CmpOp}(ha:PE X a (tE w g c E ia))(hb:PE X b (tE w g c E ib))(hs:zd b=true):PT X (.Compare a [op] [b] pos) (tT w g c E (.cmp (c2 op) ia ib)):=
 PT.imp (qoH (qaF O.K O.units op) ha hb (qaG hs)) fun σ H Q ⟨τ,S,se,k⟩=>by
  simp only [qcD,qbB,qbE,qcG,qcF,qcB,qcA]at k;refine za se k fun da va H1 e1 p1 k1=>za (se.up p1.same) k1 fun db vb H2 e2 p2 k2=>?_
  exact qaE (r:=.no) (p1.rb.mono p2.same) p2.rb k2 fun z _ q=>⟨z,rfl,q _ (p1.same.trans p2.same)⟩
theorem qql(O:XO w g c E X){op op':CmpOp}(ha:PE X a (tE w g c E ia))(hb:PE X b (tE w g c E ib))(hd:PE X d (tE w g c E id'))(hs':zd d=true):PE X (.Compare a [op,op'] [b,d] pos) (tE w g c E (.cmp2 (c2 op) (c2 op') ia ib id')):=
 PE.imp (qmX (qaF O.K O.units op) (qaF O.K O.units op') ha hb hd (qaG hs')) fun σ H Q ⟨τ,S,se,k⟩=>by
  simp only [qX,zc,zb,zh,zf,qY,ze,zi,zg,qK,qB,qJ,qD,qF,qW,qI,qC,qw,qL,qH,qP,qr,qA,qR,qE,qx,qO,qN,qS,qM,qQ,qU,qV,qG,qT]at k;refine za se k fun da va H1 e1 p1 k1=>za (se.up p1.same) k1 fun db vb H2 e2 p2 k2=>?_
  have s2:=p1.same.trans p2.same;refine qaE (r:=.no) (p1.rb.mono p2.same) p2.rb (tR.bnd k2) fun z _ q=>⟨z,rfl,?_⟩
  cases z with
  |true=>
   exact za (se.up s2) q fun dd vd H3 e3 p3 k3=>qaE (r:=.no) (p2.rb.mono p3.same) p3.rb (tR.bnd k3) fun z _ q=>q _ _ (qck.of (s2.trans p3.same) (.bl _) rfl)
  |false=>exact q _ _ (qck.of s2 (.bl _) rfl)
theorem qpg(O:XO w g c E X){op op':CmpOp}(ha:PE X a (tE w g c E ia))(hb:PE X b (tE w g c E ib))(hd:PE X d (tE w g c E id'))(hs':zd d=true):PT X (.Compare a [op,op'] [b,d] pos) (tT w g c E (.cmp2 (c2 op) (c2 op') ia ib id')):=
 PT.imp (qnI (qaF O.K O.units op) (qaF O.K O.units op') ha hb hd (qaG hs')) fun σ H Q ⟨τ,S,se,k⟩=>by
  simp only [qcD,qbB,qbE,qcG,qcF,qcB,qcA]at k;refine za se k fun da va H1 e1 p1 k1=>za (se.up p1.same) k1 fun db vb H2 e2 p2 k2=>?_
  have s2:=p1.same.trans p2.same;refine qaE (r:=.no) (p1.rb.mono p2.same) p2.rb (tR.bnd k2) fun z _ q=>⟨z,rfl,?_⟩
  cases z with
  |true=>
   exact za (se.up s2) q fun dd vd H3 e3 p3 k3=>qaE (r:=.no) (p2.rb.mono p3.same) p3.rb k3 fun z _ q=>⟨z,rfl,q _ (s2.trans p3.same)⟩
  |false=>exact⟨false,rfl,q _ s2⟩
theorem qpX(O:XO w g c E X){op op' op'':CmpOp}(ha:PE X a (tE w g c E ia))(hb:PE X b (tE w g c E ib))(hd:PE X d (tE w g c E id'))(hf:PE X f (tE w g c E if'))(hs':zd f=true):PE X (.Compare a [op,op',op''] [b,d,f] pos) (tE w g c E (.cmp3 (c2 op) (c2 op') (c2 op'') ia ib id' if')):=
 PE.imp (qly (qaF O.K O.units op) (qaF O.K O.units op') (qaF O.K O.units op'') ha hb hd hf (qaG hs')) fun σ H Q ⟨τ,S,se,k⟩=>by
  simp only [qX,zc,zb,zh,zf,qY,ze,zi,zg,qK,qB,qJ,qD,qF,qW,qI,qC,qw,qL,qH,qP,qr,qA,qR,qE,qx,qO,qN,qS,qM,qQ,qU,qV,qG,qT]at k;refine za se k fun da va H1 e1 p1 k1=>za (se.up p1.same) k1 fun db vb H2 e2 p2 k2=>?_
  have s2:=p1.same.trans p2.same;refine qaE (r:=.no) (p1.rb.mono p2.same) p2.rb (tR.bnd k2) fun z _ q=>⟨z,rfl,?_⟩
  cases z with
  |true=>
   refine za (se.up s2) q fun dd vd H3 e3 p3 k3=>qaE (r:=.no) (p2.rb.mono p3.same) p3.rb (tR.bnd k3) fun z _ q=>⟨z,rfl,?_⟩
   have s3:=s2.trans p3.same;cases z with
   |true=>exact za (se.up s3) q fun df vf H4 e4 p4 k4=>qaE (r:=.no) (p3.rb.mono p4.same) p4.rb (tR.bnd k4) fun z _ q=>q _ _ (qck.of (s3.trans p4.same) (.bl _) rfl)
   |false=>exact q _ _ (qck.of s3 (.bl _) rfl)
  |false=>exact q _ _ (qck.of s2 (.bl _) rfl)
theorem qlw{a b c d:Expr}{ta tb tc td:TE}{pos:Pos}{op op' op'':CmpOp}{r r' r'':R2}(ho:OpR X (compareOp op) r)(ho':OpR X (compareOp op') r')(ho'':OpR X (compareOp op'') r'')(ha:PE X a ta)(hb:PE X b tb)(hc:PE X c tc)(hd:PE X d td)
  (hm:lastMarks [op,op',op''] [b,c,d]=false):PT X (.Compare a [op,op',op''] [b,c,d] pos) (qjB (qiO r r' r'' ta tb tc td)):=by
 intro pins s σ H Q I h;refine isTrue_chain (thn (ha pins s σ H _ I h) fun v s1 ⟨x,H1,I1,r1,q1⟩=>test_link (thn (hb pins s1 σ H1 _ I1 q1) fun u s2 ⟨y,H2,I2,r2,q2⟩=>
  thn (ho pins s2 σ H2 x y v u _ I2 r1 r2 q2) fun d s3 ⟨z,H3,I3,r3,k,e,q3⟩=>?_)) hm
 subst e;cases r3;refine wpAny_truthy_bool ?_;cases k with
 |false=>
  obtain⟨k',e',q'⟩:=q3;cases e';exact ite_ff ⟨H3,I3,q'⟩
 |true=>
  refine ite_tt (test_link (thn (hc pins s3 σ H3 _ I3 q3) fun w' s4 ⟨z',H4,I4,r4,q4⟩=>thn (ho' pins s4 σ H4 y z' u w' _ I4 r2 r4 q4) fun d' s5 ⟨z2,H5,I5,r5,k2,e2,q5⟩=>?_));subst e2;cases r5;refine wpAny_truthy_bool ?_;cases k2 with
  |false=>
   obtain⟨k',e',q'⟩:=q5;cases e';exact ite_ff ⟨H5,I5,q'⟩
  |true=>
   refine ite_tt (test_last (thn (hd pins s5 σ H5 _ I5 q5) fun w'' s6 ⟨z3,H6,I6,r6,q6⟩=>thn (ho'' pins s6 σ H6 z' z3 w' w'' _ I6 r4 r6 q6) fun d'' s7 ⟨z4,H7,I7,r7,k4,e4,q7⟩=>?_));subst e4;cases r7;exact wpAny_truthy_bool ⟨H7,I7,q7⟩
theorem R.bind_assoc{α β γ:Type}(r:R α)(f:α→R β)(h:β→R γ):(r.bind f).bind h=r.bind fun a=>(f a).bind h:=by cases r<;>rfl
theorem qoD(O:XO w g c E X){op op' op'':CmpOp}(ha:PE X a (tE w g c E ia))(hb:PE X b (tE w g c E ib))(hd:PE X d (tE w g c E id'))(hf:PE X f (tE w g c E if'))(hs':zd f=true):PT X (.Compare a [op,op',op''] [b,d,f] pos) (tT w g c E (.val (.cmp3 (c2 op) (c2 op') (c2 op'') ia ib id' if'))):=
 PT.imp (qlw (qaF O.K O.units op) (qaF O.K O.units op') (qaF O.K O.units op'') ha hb hd hf (qaG hs')) fun σ H Q ⟨τ,S,se,k⟩=>by
  simp only [qcD,qbB,qbE,qcG,qcF,qcB,qcA,qX,zc,zb,zh,zf,qY,ze,zi,zg,qK,qB,qJ,qD,qF,qW,qI,qC,qw,qL,qH,qP,qr,qA,qR,qE,qx,qO,qN,qS,qM,qQ,qU,qV,qG,qT,R.bind_assoc]at k;refine za se k fun da va H1 e1 p1 k1=>za (se.up p1.same) k1 fun db vb H2 e2 p2 k2=>?_
  have s2:=p1.same.trans p2.same;refine qaE (r:=.no) (p1.rb.mono p2.same) p2.rb (tR.bnd k2) fun z _ q=>⟨z,rfl,?_⟩
  cases z with
  |true=>
   simp only [if_true,R.bind_assoc]at q;refine za (se.up s2) q fun dd vd H3 e3 p3 k3=>qaE (r:=.no) (p2.rb.mono p3.same) p3.rb (tR.bnd k3) fun z _ q=>⟨z,rfl,?_⟩
   have s3:=s2.trans p3.same;cases z with
   |true=>
    simp only [if_true,R.bind_assoc]at q;exact za (se.up s3) q fun df vf H4 e4 p4 k4=>qaE (r:=.no) (p3.rb.mono p4.same) p4.rb (tR.bnd k4) fun z _ q=>⟨z,rfl,q _ (s3.trans p4.same)⟩
   |false=>exact⟨false,rfl,q _ s3⟩
  |false=>exact⟨false,rfl,q _ s2⟩
theorem qtc(ht:PT X d (tT w g c E ta))(ha:PE X a (tE w g c E ia))(hb:PE X b (tE w g c E ib))(h1:esc ia=true)(h2:esc ib=true):PE X (.IfExp d a b pos) (tE w g c E (.ite ta ia ib)):=
 PE.imp (qnn ht ha hb) fun σ H Q ⟨τ,S,se,k⟩=>by
  simp only [qX,zc,zb,zh,zf,qY,ze,zi,zg,qK,qB,qJ,qD,qF,qW,qI,qC,qw,qL,qH,qP,qr,qA,qR,qE,qx,qO,qN,qS,qM,qQ,qU,qV,qG,qT]at k;refine qkj se k fun z H1 e1 s1 k1=>?_
  cases z with
  |true=>exact⟨τ,S,se.up s1,tR.imp k1 fun dd hk v H' p=>hk v H' (p.pass s1 h1 rfl)⟩
  |false=>exact⟨τ,S,se.up s1,tR.imp k1 fun dd hk v H' p=>hk v H' (p.pass s1 h2 rfl)⟩
theorem qrP:PA X [] (tA w g c E .nil):=PA.imp zP fun σ H Q ⟨τ,S,se,k⟩=>k [] H (qf.refl _) .nil fun _=>.nil
theorem qoz{es:List Expr}{ies:Es}(ha:PE X a (tE w g c E ia))(hr:PA X es (tA w g c E ies))(hs:isStar a=false):PA X (a::es) (tA w g c E (.cons ia ies)):=
 PA.imp (zj ha hr (qg hs)) fun σ H Q ⟨τ,S,se,k⟩=>by
  simp only [zx]at k;refine za se k fun da va H1 e1 p1 k1=>qeA (se.up p1.same) k1 fun ds vs H2 e2 s2 r2 r2' k2=>k2 _ _ (p1.same.trans s2) (.cons (p1.rb.mono s2) r2) fun z=>?_
  simp only [qcK,Bool.and_eq_true]at z;exact .cons ((p1.st z.1).mono (qk s2)) (r2' z.2)
theorem qeM:∀{es:Es}{τ:Env}{ds:List D}{l:List Expr}{n:Nat},cEs n c l=some es→zx w es τ=.ok ds→ds.length=l.length
 |_,_,_,l,0,h,_=>by simp [cEs]at h
 |es,τ,ds,[],n+1,h,e=>by
  simp only [cEs,Option.some.injEq]at h;subst h;simp only [zx,R.ok.injEq]at e;subst e;rfl
 |es,τ,ds,x::l,n+1,h,e=>by
  simp only [cEs]at h;cases hs:isStar x with
  |true=>simp [hs]at h
  |false=>
   simp only [hs,Bool.false_eq_true,if_false,Option.bind_eq_bind,Option.bind_eq_some_iff]at h;obtain⟨i1,_,r,hr,h⟩:=h;cases h;simp only [zx]at e;cases q:evE w i1 τ with
   |ok z=>
    rw [q]at e;simp only [R.bind_ok]at e;cases q2:zx w r τ with
    |ok zs=>
     rw [q2]at e;cases e;simp [qeM hr q2]
    |ex z=>rw [q2]at e;cases e
    |no=>rw [q2]at e;cases e
   |ex z=>rw [q]at e;cases e
   |no=>rw [q]at e;cases e
theorem qeX{n:Nat}(h:n≤100000):n≤sizeLine:=Nat.le_trans h (by rw [sizeLine_eq];decide)
theorem qth{es:List Expr}{ies:Es}{k:Nat}(ha:PA X es (tA w g c E ies))(he:qcK ies=true)(hl:∀τ ds,zx w ies τ=.ok ds→ds.length≤100000):PE X (.Tuple es k pos) (tE w g c E (.tup ies)):=
 PE.imp (qqB ha) fun σ H Q ⟨τ,S,se,k⟩=>by
  simp only [qX,zc,zb,zh,zf,qY,ze,zi,zg,qK,qB,qJ,qD,qF,qW,qI,qC,qw,qL,qH,qP,qr,qA,qR,qE,qx,qO,qN,qS,qM,qQ,qU,qV,qG,qT]at k;refine qeA se k fun ds vs H1 e1 s1 r1 r1' k1=>?_
  have r:=r1' he;exact⟨by rw [←r.length];exact qeX (hl _ _ e1),fun p hp=>k1 _ _ (qck.of (s1.trans (qu hp)) (qaM (se.sub.same s1) hp r) rfl)⟩
theorem qsR{es:List Expr}{ies:Es}(ha:PA X es (tA w g c E ies))(he:qcK ies=true)(hl:∀τ ds,zx w ies τ=.ok ds→ds.length≤100000):PE X (.List es pos) (tE w g c E (.lst ies)):=
 PE.imp (qqd ha) fun σ H Q ⟨τ,S,se,k⟩=>by
  simp only [qX,zc,zb,zh,zf,qY,ze,zi,zg,qK,qB,qJ,qD,qF,qW,qI,qC,qw,qL,qH,qP,qr,qA,qR,qE,qx,qO,qN,qS,qM,qQ,qU,qV,qG,qT]at k;refine qeA se k fun ds vs H1 e1 s1 r1 r1' k1=>?_
  have r:=r1' he;exact⟨by rw [←r.length];exact qeX (hl _ _ e1),fun p hp=>k1 _ _ (qck.new (s1.trans (qu hp)) (qas (se.sub.same s1) hp r) (qbr s1 hp r))⟩
theorem qjZ{b:Expr}(h:isSlice b=false):qjn b:=fun o i=>by cases b<;>first|rfl|(simp [isSlice]at h)
theorem quq(O:XO w g c E X)(ha:PE X a (tE w g c E ia))(hb:PE X b (tE w g c E ib))(hs:isSlice b=false):PE X (.Subscript a b pos) (tE w g c E (.ix ia ib)):=
 PE.imp (qsY (qro O.K) ha hb (qjZ hs)) fun σ H Q ⟨τ,S,se,k⟩=>by
  simp only [qX,zc,zb,zh,zf,qY,ze,zi,zg,qK,qB,qJ,qD,qF,qW,qI,qC,qw,qL,qH,qP,qr,qA,qR,qE,qx,qO,qN,qS,qM,qQ,qU,qV,qG,qT]at k;refine za se k fun da va H1 e1 p1 k1=>za (se.up p1.same) k1 fun db vb H2 e2 p2 k2=>⟨S,da,db,p1.rb.mono p2.same,p2.rb,?_⟩
  cases q:ixD da db with
  |ok r=>rw [q]at k2;exact fun v r=>k2 v H2 (qck.of (p1.same.trans p2.same) r rfl)
  |ex z=>exact qrd q
  |no=>rw [q]at k2;exact k2
theorem qug(O:XO w g c E X){lo hi:Option Expr}{il ih:OE}(ha:PE X a (tE w g c E ia))(hl:PO X lo (tOe w g c E il))(hh:PO X hi (tOe w g c E ih)):PE X (.Subscript a (.Slice lo hi none p2) pos) (tE w g c E (.sl ia il ih)):=
 PE.imp (qnM (qqx O.K) ha hl hh) fun σ H Q ⟨τ,S,se,k⟩=>by
  simp only [qX,zc,zb,zh,zf,qY,ze,zi,zg,qK,qB,qJ,qD,qF,qW,qI,qC,qw,qL,qH,qP,qr,qA,qR,qE,qx,qO,qN,qS,qM,qQ,qU,qV,qG,qT]at k;refine za se k fun da va H1 e1 p1 k1=>qrh (se.up p1.same) k1 fun l H2 e2 s2 k2=>qrh (se.up (p1.same.trans s2)) k2 fun h H3 e3 s3 k3=>?_
  have s:=(p1.same.trans s2).trans s3;refine⟨S,da,se.sub.same s,p1.rb.mono (s2.trans s3),?_⟩;cases q:slD da l h with
  |ok r=>rw [q]at k3;exact fun v H' s' r=>k3 v H' (qck.of (s.trans s') r rfl)
  |ex z=>exact qrw q
  |no=>rw [q]at k3;exact k3
theorem qot:PO X none (tOe w g c E .none):=PO.imp qpi fun σ H Q ⟨τ,S,se,k⟩=>k H (qf.refl _)
theorem qpS(ha:PE X a (tE w g c E ia)):PO X (some a) (tOe w g c E (.some ia)):=PO.imp (qoN ha) fun σ H Q ⟨τ,S,se,k⟩=>by
 simp only [evO]at k;refine za se k fun da va H1 e1 p1 k1=>?_
 cases da with
 |int i=>exact⟨i,p1.rb.int,k1 _ p1.same⟩
 |_=>exact k1.elim
theorem qrF(O:XO w g c E X){x:Str}{fr:Bool}{e:Expr}{es:List Expr}{ies:Es}(h:glob c x=some (.fn fr))(ha:PA X (e::es) (tA w g c E ies))(he:qcK ies=true)(hs:∀z∈e::es,isStar z=false):PE X (.Call (.Name x p2) (e::es) [] pos) (tE w g c E (.call x ies)):=by
 obtain⟨f,h1,h2⟩:=O.gm h;refine PE.imp (qhp O h2 (O.gl h) (qy h).2.2.1 ha hs) fun σ H Q ⟨τ,S,se,k⟩=>?_
 simp only [qX,zc,zb,zh,zf,qY,ze,zi,zg,qK,qB,qJ,qD,qF,qW,qI,qC,qw,qL,qH,qP,qr,qA,qR,qE,qx,qO,qN,qS,qM,qQ,qU,qV,qG,qT]at k;refine qeA se k fun ds vs H1 e1 s1 r1 r1' k1=>⟨S,ds,se.sub.same s1,by rw [List.append_nil];exact r1' he,tR.imp k1 fun dd hk v H' s' r f=>hk v H' ⟨s1.trans s',.inl r,fun _=>r,fun z=>?_⟩⟩
 simp only [fresh,(qy h).2.1,beq_iff_eq,Option.some.injEq,GK.fn.injEq]at z;exact(f z).low s1
theorem qph{H:Hp}{S S':Sh}(hL:∀a,S'.h a=false→S.h a=true→∃vs,H a=some (.lst vs)){K:PySem.W.Frag}{a:Addr}{xs:List V}(q:SqT K (hid H S') a xs):SqT K (hid H S) a xs:=by
 have key:∀o:HO,(∀vs,o≠.lst vs)→hid H S' a=some o→hid H S a=some o:=fun o ho z=>by
  obtain⟨z1,z2⟩:=quf.mp z;refine quf.mpr ⟨?_,z2⟩;cases y:S.h a with
  |false=>rfl
  |true=>
   obtain⟨vs,e⟩:=hL a z1 y;rw [z2]at e;cases e;exact absurd rfl (ho vs)
 rcases q with (q|⟨o,q⟩)|q
 ·exact .inl (.inl (key _ (by intro _ z;cases z) q))
 ·exact .inl (.inr ⟨o,key _ (by intro _ z;cases z) q⟩)
 ·exact .inr q
theorem qpZ{H:Hp}{S S':Sh}(hL:∀a,S'.h a=false→S.h a=true→∃vs,H a=some (.lst vs)){d:D}{v:V}(hn:d.noL=true)(h:Rep g (hid H S') d v):Rep g (hid H S) d v:=
 h.rec (motive_1:=fun d v _=>d.noL=true→Rep g (hid H S) d v) (motive_2:=fun d v _=>qns d=true→qh g (hid H S) d v) (fun _=>.non) (fun b _=>.bl b) (fun b _=>.int b) (fun b _=>.str b) (fun q _ r p=>.tup (qph hL q) (r p)) (fun _ _ _ p=>nomatch p) (fun _ p=>nomatch p) (fun _ _ p=>nomatch p) (fun _ p=>nomatch p) (fun _=>.nil) (fun _ _ a b p=>.cons (a (qkF p).1) (b (qkF p).2)) hn
noncomputable def qfv(S:Sh)(L:List Addr):Sh:=⟨fun _=>false,fun b=>S.h b && !L.contains b,S.z,S.y⟩
theorem qhm{H:Hp}{S:Sh}{L:List Addr}:qf (hid H S) (hid H (qfv S L)):=fun b o h=>by
 obtain⟨h1,h2⟩:=quf.mp h;exact quf.mpr ⟨by show (S.h b&&_)=false;rw [h1];rfl,h2⟩
theorem qju{H:Hp}{S:Sh}{L:List Addr}{a:Addr}:qf (hid H (qfv S L)) (hid H (qfv S (a::L))):=fun b o h=>by
 obtain⟨h1,h2⟩:=quf.mp h;refine quf.mpr ⟨?_,h2⟩;have h1:(S.h b && !L.contains b)=false:=h1;show (S.h b && !(a::L).contains b)=false;cases q:S.h b with
 |false=>rfl
 |true=>
  rw [q]at h1;have h1:L.contains b=true:=by simpa using h1
  simp only [List.contains_cons,h1,Bool.or_true];rfl
theorem seen{H:Hp}{S:Sh}:∀{ds:List D}{vs:List V},qbW g H S ds vs→∃L:List Addr,(∀a∈L,∃us,H a=some (.lst us))∧qh g (hid H (qfv S L)) ds vs
 |_,_,.nil=>⟨[],by simp,.nil⟩
 |_,_,.cons r t=>by
  obtain⟨L,h1,h2⟩:=seen t;rcases r with r|⟨a,us,ds,z1,rfl,rfl,z4,z5⟩
  ·exact⟨L,h1,.cons (r.mono qhm) h2⟩
  ·refine⟨a::L,fun b hb=>?_,.cons (.lst (SqL.of (quf.mpr ⟨?_,z4⟩)) (z5.mono qhm)) (h2.mono qju)⟩
   ·rcases List.mem_cons.mp hb with rfl|hb
    ·exact⟨us,z4⟩
    ·exact h1 b hb
   ·show (S.h a && !(a::L).contains a)=false;simp
theorem qpz(O:XO w g c E X){x:Str}{fr:Bool}{e:Expr}{es:List Expr}{ies:Es}(h:glob c x=some (.fn fr))(ha:PA X (e::es) (tA w g c E ies))(hs:∀z∈e::es,isStar z=false):PE X (.Call (.Name x p2) (e::es) [] pos) (tE w g c E (.callo x ies)):=by
 obtain⟨f,h1,h2⟩:=O.gm h;refine PE.imp (qhp O h2 (O.gl h) (qy h).2.2.1 ha hs) fun σ H Q ⟨τ,S,se,k⟩=>?_
 simp only [qX,zc,zb,zh,zf,qY,ze,zi,zg,qK,qB,qJ,qD,qF,qW,qI,qC,qw,qL,qH,qP,qr,qA,qR,qE,qx,qO,qN,qS,qM,qQ,qU,qV,qG,qT]at k;refine qeA se k fun ds vs H1 e1 s1 r1 r1' k1=>?_
 obtain⟨L,hL,rr⟩:=seen r1;refine⟨qfv S L,ds,fun a ha=>?_,by rw [List.append_nil];exact rr,?_⟩
 ·refine se.sub.same s1 a ?_;rcases ha with ha|ha
  ·have ha:(S.h a && !L.contains a)=true:=ha;exact .inl (Bool.and_eq_true _ _▸ha).1
  ·cases ha
 ·cases q:w.call x ds with
  |ok d=>
   rw [q]at k1;simp only [R.bind_ok]at k1;split at k1
   ·rename_i hd
    intro v H' s' r _;refine k1 v H' (qck.of (s1.trans s') (qpZ (fun a z1 z2=>?_) hd r) rfl);have z1:(S.h a && !L.contains a)=false:=z1;rw [z2]at z1;obtain⟨us,e⟩:=hL a (by simpa using z1);exact⟨us,s' _ _ e⟩
   ·exact k1.elim
  |ex z=>rw [q]at k1;exact fun H' C sm hc=>k1 H' C sm hc
  |no=>rw [q]at k1;exact k1.elim
theorem szl:SZ≤sizeLine:=by rw [sizeLine_eq];decide
theorem qgH{i:Int}(h:qe i=true):i.natAbs.log2<1920:=by
 simp only [qe,Bool.and_eq_true,decide_eq_true_eq]at h;by_cases h0:i.natAbs=0
 ·rw [h0];decide
 ·exact Nat.lt_trans ((Nat.log2_lt h0).mpr (show i.natAbs<2^20 by lia)) (by decide)
theorem qtt{a b:Expr}{ia ib:EV.E}{t0 t1 t2:Str}{k0 k1 k2}{p0 p1 p2 p3 p4 pos:Pos}(h0:(Str.empty++t0).length≤1000)(ha:PE X a (tE w g c E ia))(hb:PE X b (tE w g c E ib)) :
  PE X (.JoinedStr [.Constant (.str t0) k0 p0,.FormattedValue a (-1) none p1,.Constant (.str t1) k1 p2,.FormattedValue b (-1) none p3,.Constant (.str t2) k2 p4] pos) (tE w g c E (.fst2 t0 ia t1 ib t2)):=by
 refine PE.imp (qsi (by rw [sizeLine_eq];lia) ha hb) fun σ H Q ⟨τ,S,se,k⟩=>?_
 simp only [qX,zc,zb,zh,zf,qY,ze,zi,zg,qK,qB,qJ,qD,qF,qW,qI,qC,qw,qL,qH,qP,qr,qA,qR,qE,qx,qO,qN,qS,qM,qQ,qU,qV,qG,qT]at k;refine za se k fun da va H1 e1 p1 k1=>?_
 cases da with
 |int i=>
  simp only at k1;cases hc:qe i&&decide ((qeO t0 i t1).length≤SZ)with
  |false=>rw [hc]at k1;exact k1.elim
  |true=>
   rw [hc,if_pos rfl]at k1;simp only [Bool.and_eq_true,decide_eq_true_eq]at hc;refine⟨i,by rw [p1.rb.int],⟨qgH hc.1,Nat.le_trans hc.2 szl⟩,za (se.up p1.same) k1 fun db vb H2 e2 p2 k2=>?_⟩;cases db with
   |int j=>
    simp only at k2;cases hd:qe j&&decide ((qef t0 i t1 j t2).length≤SZ)with
    |false=>rw [hd]at k2;exact k2.elim
    |true=>
     rw [hd,if_pos rfl]at k2;simp only [Bool.and_eq_true,decide_eq_true_eq]at hd;exact⟨j,by rw [p2.rb.int],⟨qgH hd.1,Nat.le_trans hd.2 szl⟩,k2 _ _ (qck.of (p1.same.trans p2.same) (.str _) rfl)⟩
   |_=>exact k2.elim
 |_=>exact k1.elim
theorem qtL:PE X (.Dict [] [] pos) (tE w g c E .dic):=PE.imp qmo fun σ H Q ⟨τ,S,se,k⟩ p hp=>by
 simp only [qX,zc,zb,zh,zf,qY,ze,zi,zg,qK,qB,qJ,qD,qF,qW,qI,qC,qw,qL,qH,qP,qr,qA,qR,qE,qx,qO,qN,qS,qM,qQ,qU,qV,qG,qT]at k;exact k _ _ (qck.of (qu hp) (.dic (qfI se.sub hp)) rfl)
theorem qln{b:B1}{S:Sh}{H0 H:Hp}{ds:List D}{vs:List V}{Q:VK}{ies:Es}(s:qf H0 H)(hS:Sub S H)(r:qbW g H S ds vs)(k:tR g E H (b1 b ds) fun d=>∀v H',qck g c (.bi b ies) S H0 d v H'→Q v H'):rB1 g b vs H Q:=by
 refine⟨S,ds,hS,r,?_⟩;cases q:b1 b ds with
 |ok d=>
  rw [q]at k;exact fun v H' s' r' f=>k v H' ⟨s.trans s',.inl r',fun _=>r',fun z=>by
   have:b=.list∨b=.sorted:=by cases b<;>simp [fresh]at z ⊢
   exact(f this).low s⟩
 |ex z=>exact qtn q
 |no=>rw [q]at k;exact k
theorem quo(O:XO w g c E X){x:Str}{b:B1}{e:Expr}{es:List Expr}{ies:Es}(h:glob c x=some (.bi b))(hc:X.calm=true∨b=.len∨b=.abs)(ha:PA X (e::es) (tA w g c E ies))(hs:∀z∈e::es,isStar z=false):PE X (.Call (.Name x p2) (e::es) [] pos) (tE w g c E (.bi b ies)):=by
 obtain⟨h1,h2,id,h3⟩:=O.gm h;have hb:=qiR b;rw [←h2,h3]at hb;have hcall:=qlG (X:=X) (g:=g) O.K O.units b (by rcases hc with z|z|z;exact .inl z;exact .inr (.inl z);exact .inr (.inr (.inl z)));rw [h3]at hcall;refine PE.imp (qeT hcall (O.gl h) h1 hb ha (qy h).2.2.2 (qy h).2.2.1 (qg (hs e List.mem_cons_self)) (qeV fun z hz=>hs z (List.mem_cons_of_mem _ hz))) fun σ H Q ⟨τ,S,se,k⟩=>?_
 simp only [qX,zc,zb,zh,zf,qY,ze,zi,zg,qK,qB,qJ,qD,qF,qW,qI,qC,qw,qL,qH,qP,qr,qA,qR,qE,qx,qO,qN,qS,qM,qQ,qU,qV,qG,qT]at k;exact qeA se k fun ds vs H1 e1 s1 r1 r1' k1=>qln (ies:=ies) s1 (se.sub.same s1) r1 k1
theorem qtW(O:XO w g c E X){x:Str}{n:String}{b:B1}{e:Expr}{es:List Expr}{ies:Es}(h:glob c x=some (.ty n (some b)))(ha:PA X (e::es) (tA w g c E ies))(hs:∀z∈e::es,isStar z=false):PE X (.Call (.Name x p2) (e::es) [] pos) (tE w g c E (.bi b ies)):=by
 obtain⟨h1,h2,_,h3⟩:=O.gm h;obtain⟨_,h4⟩:=h3 b rfl;have hcall:=qlG (X:=X) (g:=g) O.K O.units b (by cases b<;>simp [b1V]at h4 ⊢);rw [h4]at hcall;refine PE.imp (qaK hcall (O.gl h) h1 h2 ha (qy h).2.2.2 (qy h).2.2.1 (qg (hs e List.mem_cons_self)) (qeV fun z hz=>hs z (List.mem_cons_of_mem _ hz))) fun σ H Q ⟨τ,S,se,k⟩=>?_
 simp only [qX,zc,zb,zh,zf,qY,ze,zi,zg,qK,qB,qJ,qD,qF,qW,qI,qC,qw,qL,qH,qP,qr,qA,qR,qE,qx,qO,qN,qS,qM,qQ,qU,qV,qG,qT]at k;exact qeA se k fun ds vs H1 e1 s1 r1 r1' k1=>qln (ies:=ies) s1 (se.sub.same s1) r1 k1
end
section
variable{w:W}{g:Gc}{c:Cc}{E:XK}{X:Cx}{a b d f:Expr}{ia ib id' if':EV.E}{pos p2:Pos}{ta tb:T}
noncomputable def qsP(w:W)(g:Gc)(d:D)(vc:V)(bb:Bool):Cl→Prop
 | .ty n=>vc=.ty n∧((n∈["int","bool","str","list","tuple"]∧∃t,tyD d=some t∧bb=qeU t n)∨∃k,d=.exn k∧w.sub k (.ty n)=some bb)
 | .ex x=>∃D k,g.clA x=some D∧vc=.ref D∧d=.exn k∧w.sub k (.ex x)=some bb
noncomputable def clV(g:Gc)(vc:V):Cl→Prop
 | .ty n=>vc=.ty n∧(n∈["int","bool","str","list","tuple"]∨n = "ValueError")
 | .ex x=>∃D,g.clA x=some D∧vc=.ref D
theorem qoW(O:XO w g c E X):qz X (.builtin "isinstance") (fun xs H Q=>∃(S:Sh) (d:D) (v:V) (cl:Cl) (vc:V) (bb:Bool),xs=[v,vc]∧zE g H S d v∧qsP w g d vc bb cl∧Q (.bl bb) H):=by
 have k:=(qqg (X:=X) (g:=g) O.K).or (qnl (X:=X));refine qz.imp k fun xs H Q ⟨S,d,v,cl,vc,bb,e,rd,h,q⟩=>?_
 have exn:∀(kk:Str) (cv:Value),d=.exn kk→qmy vc=some cv→(∃C,g.clA kk=some C∧qaI g.K C∧PySem.W.kitOne g.K (.ref C) cv=some bb)→∃x c cv t b,xs=[x,c]∧qmy c=some cv∧TyX X.K H x t∧PySem.W.kitOne X.K t cv=some b∧Q (.bl b) H:=fun kk cv ed hv ⟨C,h1,h2,h3⟩=>by
  subst ed;cases rd.rep with
  | @exn _ a C' z1 z2=>
   rw [h1]at z1;cases z1;exact⟨_,vc,cv,.ref C,bb,e,hv,.inr ⟨a,C,rfl,rfl,z2,by rw [O.K];exact h2⟩,by rw [O.K];exact h3,q⟩
 cases cl with
 |ty n=>
  obtain⟨rfl,⟨hn,t,ht,rfl⟩|⟨kk,rfl,hk⟩⟩:=h
  ·exact .inl ⟨S,d,v,n,t,e,rd,ht,hn,q⟩
  ·obtain⟨C,cv,z1,z2,z3,z4,z5⟩:=O.sub kk (.ty n) bb hk;exact .inr (exn kk (.type n) rfl rfl ⟨C,z1,z2,z5▸z3⟩)
 |ex x=>
  obtain⟨D,kk,h1,rfl,rfl,hk⟩:=h;obtain⟨C,cv,z1,z2,z3,D',z4,z5⟩:=O.sub kk (.ex x) bb hk;rw [h1]at z4;cases z4;exact .inr (exn kk (.ref D) rfl rfl ⟨C,z1,z2,z5▸z3⟩)
theorem qrg{x:D}{cl:Cl}:(∃t n,tyD x=some t∧cl=.ty n∧n≠"ValueError"∧qaY w x cl=.ok (.bl (qeU t n)))∨(∃k b,x=.exn k∧w.sub k cl=some b∧qaY w x cl=.ok (.bl b))∨qaY w x cl=.no:=by
 unfold qaY;cases e:tyD x with
 |some t=>
  cases cl with
  |ty n=>
   by_cases hn:n = "ValueError"
   ·exact .inr (.inr (by simp [hn]))
   ·exact .inl ⟨t,n,rfl,rfl,hn,by simp [hn]⟩
  |ex y=>exact .inr (.inr rfl)
 |none=>
  cases x with
  |exn k=>
   cases q:w.sub k cl with
   |none=>exact .inr (.inr (by simp [q]))
   |some b=>exact .inr (.inl ⟨k,b,rfl,q,by simp [q]⟩)
  |fn y=>exact .inr (.inr (by cases cl<;>rfl))
  |_=>cases e
theorem qtG(O:XO w g c E X){x:Str}{k:Expr}{cl:Cl}(h:glob c x=some .isi)(ha:PE X a (tE w g c E ia))(hk:qjs c k=some cl)(hs:isStar a=false):PE X (.Call (.Name x p2) [a,k] [] pos) (tE w g c E (.isi ia cl)):=by
 obtain⟨h1,rfl⟩:=O.gm h;obtain⟨y,q,rfl⟩:∃y q,k=.Name y q:=by
  cases k<;>first|exact⟨_,_,rfl⟩|(simp [qjs]at hk)
 obtain⟨vc,hv,hc⟩:∃vc,PE X (.Name y q) (tC vc)∧clV g vc cl:=by
  simp only [qjs]at hk;split at hk
  ·rename_i n b e
   cases hk;obtain⟨z1,z2,z3,_⟩:=O.gm e;exact⟨.ty n,qoP (O.gl e) z1 z2 rfl (qy e).2.2.2 (qy e).2.2.1,rfl,z3⟩
  ·rename_i e
   cases hk;obtain⟨C,z1,z2⟩:=O.gm e;exact⟨.ref C,qek (O.gl e) z1 rfl (qy e).2.2.1,C,z2,rfl⟩
  ·rename_i e
   cases hk;obtain⟨C,z1,z2⟩:=O.gm e;exact⟨.ref C,qek (O.gl e) z1 rfl (qy e).2.2.1,C,z2,rfl⟩
  ·cases hk
 refine PE.imp (qeT (qoW O) (O.gl h) h1 (by decide +kernel) (zj ha (zj hv zP) (qg hs)) (by decide) (by decide) (qg hs) rfl) fun σ H Q ⟨τ,S,se,k⟩=>?_
 simp only [qX,zc,zb,zh,zf,qY,ze,zi,zg,qK,qB,qJ,qD,qF,qW,qI,qC,qw,qL,qH,qP,qr,qA,qR,qE,qx,qO,qN,qS,qM,qQ,qU,qV,qG,qT]at k;refine za se k fun da va H1 e1 p1 k1=>?_
 rcases qrg (w:=w) (x:=da) (cl:=cl)with ⟨t,n,z1,rfl,z2,z3⟩|⟨kk,bb,rfl,z2,z3⟩|z3
 ·rw [z3]at k1;obtain⟨rfl,hc|hc⟩:=hc
  ·exact⟨S,da,va,.ty n,.ty n,_,rfl,p1.rb,⟨rfl,.inl ⟨hc,t,z1,rfl⟩⟩,k1 _ _ (qck.of p1.same (.bl _) rfl)⟩
  ·exact absurd hc z2
 ·rw [z3]at k1;refine⟨S,.exn kk,va,cl,vc,bb,rfl,p1.rb,?_,k1 _ _ (qck.of p1.same (.bl _) rfl)⟩;cases cl with
  |ty n=>exact⟨hc.1,.inr ⟨kk,rfl,z2⟩⟩
  |ex x=>obtain⟨D,z4,z5⟩:=hc;exact⟨D,kk,z4,z5,rfl,z2⟩
 ·rw [z3]at k1;exact k1.elim
theorem qqK(O:XO w g c E X)(ha:PE X a (tE w g c E ia))(he:∀whole,isTrue a X.env whole=(do let v ←whole;standAt a.pos;holding [v] (truthy v))):PT X a (tT w g c E (.val ia)):=
 PT.imp (qnh ha he) fun σ H Q ⟨τ,S,se,k⟩=>by
  simp only [qcD,qbB,qbE,qcG,qcF,qcB,qcA]at k;refine za se k fun da va H1 e1 p1 k1=>?_
  cases q:truth da with
  |ok z=>rw [q]at k1;exact⟨z,qpr O.K p1.rb q,k1 _ p1.same⟩
  |ex z=>exact absurd q qmk
  |no=>rw [q]at k1;exact k1.elim
theorem qsg(ha:PT X a (tT w g c E ta)):PT X (.UnaryOp .Not a pos) (tT w g c E (.not ta)):=
 PT.imp (qrv ha) fun σ H Q ⟨τ,S,se,k⟩=>by
  simp only [qcD,qbB,qbE,qcG,qcF,qcB,qcA]at k;exact qkj se k fun z H1 e1 s1 k1=>k1 _ s1
theorem qra{rest:List Expr}(ha:PT X a (tT w g c E ta))(hb:PW X (.BoolOp .And (b::rest) pos) (tT w g c E tb)):PW X (.BoolOp .And (a::b::rest) pos) (tT w g c E (.and ta tb)):=
 PW.imp (qqZ ha hb) fun σ H Q ⟨τ,S,se,k⟩=>by
  simp only [qcD,qbB,qbE,qcG,qcF,qcB,qcA]at k;refine qkj se k fun z H1 e1 s1 k1=>?_
  cases z with
  |true=>exact⟨τ,S,se.up s1,tR.imp k1 fun b hk H' s=>hk H' (s1.trans s)⟩
  |false=>exact k1 _ s1
theorem qtM{rest:List Expr}(ha:PT X a (tT w g c E ta))(hb:PW X (.BoolOp .Or (b::rest) pos) (tT w g c E tb)):PW X (.BoolOp .Or (a::b::rest) pos) (tT w g c E (.or ta tb)):=
 PW.imp (qsG ha hb) fun σ H Q ⟨τ,S,se,k⟩=>by
  simp only [qcD,qbB,qbE,qcG,qcF,qcB,qcA]at k;refine qkj se k fun z H1 e1 s1 k1=>?_
  cases z with
  |false=>exact⟨τ,S,se.up s1,tR.imp k1 fun b hk H' s=>hk H' (s1.trans s)⟩
  |true=>exact k1 _ s1
theorem PI.or{tg e:Expr}{t t':TI}(h:PI X tg e t)(h':PI X tg e t'):PI X tg e (fun σ H R=>t σ H R∨t' σ H R):=fun pins s σ H R I q=>by
 rcases q with q|q
 ·exact h pins s σ H R I q
 ·exact h' pins s σ H R I q
theorem qgf{K:PySem.W.Frag}{a:Addr}{vs:List V}{ds:List D}{H:Hp}{S:Sh}(hl:SqL K H a vs)(r:qh g (hid H S) ds vs):Goes g (Itl K a) ds H S:=by
 refine⟨fun i hi=>⟨vs,hl,by rw [←r.length];exact hi⟩,fun i d hd=>?_⟩;obtain⟨v,h1,h2⟩:=r.get hd;refine⟨⟨vs,v,hl,h1⟩,fun x H' ⟨e,hx⟩=>?_⟩;subst e;have:=hx vs hl;rw [h1]at this;cases this;exact⟨qf.refl _,h2⟩
theorem qhn{K:PySem.W.Frag}{a:Addr}{vs:List V}{ds:List D}{H:Hp}{S:Sh}(hl:SqT K H a vs)(r:qh g (hid H S) ds vs):Goes g (Itt K a) ds H S:=by
 refine⟨fun i hi=>⟨vs,hl,by rw [←r.length];exact hi⟩,fun i d hd=>?_⟩;obtain⟨v,h1,h2⟩:=r.get hd;refine⟨⟨vs,v,hl,h1⟩,fun x H' ⟨e,hx⟩=>?_⟩;subst e;have:=hx vs hl;rw [h1]at this;cases this;exact⟨qf.refl _,h2⟩
theorem qgr:∀{xs:List D}{k i:Nat}{d:D},(zV k xs)[i]? = some d→∃x,xs[i]? = some x∧d=.tup [.int ((k+i:Nat):Int),x]
 | [],_,_,_,h=>by simp [zV]at h
 |x::r,k,0,d,h=>by simp [zV]at h;exact⟨x,rfl,by rw [←h];rfl⟩
 |x::r,k,i+1,d,h=>by
  simp only [zV,List.getElem?_cons_succ]at h;obtain⟨y,h1,h2⟩:=qgr h;exact⟨y,by simpa using h1,by rw [h2,show k+1+i=k+(i+1)by lia]⟩
theorem qgl:∀(xs:List D) (k:Nat),(zV k xs).length=xs.length
 | [],_=>rfl
 |x::r,k=>by simp [zV,qgl r]
theorem qgB{K:PySem.W.Frag}{a:Addr}{vs:List V}{ds:List D}{H:Hp}{S:Sh}(hl:SqL K H a vs)(r:qh g (hid H S) ds vs)(hS:Sub S H):Goes g (Ite K a) (zV 0 ds) H S:=by
 refine⟨fun i hi=>⟨vs,hl,by rw [←r.length,←qgl ds 0];exact hi⟩,fun i d hd=>?_⟩;obtain⟨y,h0,rfl⟩:=qgr hd;obtain⟨v,h1,h2⟩:=r.get h0;refine⟨⟨vs,v,hl,h1⟩,fun x H' ⟨p,z,hp,e1,e2,hx⟩=>?_⟩;subst e1 e2;have:=hx vs hl;rw [h1]at this;cases this;refine⟨qu hp,?_⟩;rw [Nat.zero_add];exact qaM hS hp (.cons (.int _) (.cons h2 .nil))
theorem qbX{lo:Int}{n:Nat}{H:Hp}{S:Sh}:Goes g (Itr lo n) (zD lo n) H S:=by
 refine⟨fun i hi=>by show n≤i;simpa [zD]using hi,fun i d hd=>?_⟩;unfold zD at hd;rw [List.getElem?_map]at hd;cases q:(List.range n)[i]? with
 |none=>rw [q]at hd;cases hd
 |some j=>
  rw [q]at hd;cases hd;have hi:=(List.getElem?_eq_some_iff.mp q)
  obtain⟨h1,h2⟩:=hi;simp at h1 h2;subst h2;exact⟨h1,fun x H' ⟨e1,e2⟩=>by subst e1 e2;exact⟨qf.refl _,.int _⟩⟩
theorem qet{lo st:Int}{n:Nat}{H:Hp}{S:Sh}:Goes g (ItS lo st n) (qcV lo st n) H S:=by
 refine⟨fun i hi=>by show n≤i;simpa [qcV]using hi,fun i d hd=>?_⟩;unfold qcV at hd;rw [List.getElem?_map]at hd;cases q:(List.range n)[i]? with
 |none=>rw [q]at hd;cases hd
 |some j=>
  rw [q]at hd;cases hd;have hi:=(List.getElem?_eq_some_iff.mp q)
  obtain⟨h1,h2⟩:=hi;simp at h1 h2;subst h2;exact⟨h1,fun x H' ⟨e1,e2⟩=>by subst e1 e2;exact⟨qf.refl _,.int _⟩⟩
theorem qrD(O:XO w g c E X){tg:Expr}(ha:PE X a (tE w g c E ia)):PI X tg a (tIt w g c E (.seq ia)):=
 PI.imp (PI.or (qpp ha) (qqU ha)) fun σ H R ⟨τ,S,se,k⟩=>by
  have k0:=k;simp only [evI]at k;cases q:evE w ia τ with
  |ex z=>exact .inl ⟨τ,S,se,by rw [q]at k ⊢;exact k⟩
  |no=>rw [q]at k;exact k.elim
  |ok dd=>
   cases dd with
   |lst ds=>
    refine .inl (za se k fun da va H1 e1 p1 k1=>?_);rw [q]at e1;cases e1;obtain⟨ad,vs,rfl,h1,r1⟩:=p1.rb.lst;rw [←O.K]at h1;refine⟨ad,rfl,⟨vs,h1⟩,k1 _ H1 p1.same (fun H2 S2 s1 s2 _=>qgf (s1.seq h1) (r1.mono s2)) fun ho H2 S2 s2 _=>?_⟩;have he:esc ia=true:=by
     cases ia<;>first|rfl|(simp [owned]at ho)
    cases p1.st he with
    |lst h2 r2=>exact qgf (by rw [O.K];exact(s2.trans qab).seq h2) (r2.mono s2)
   |tup ds=>
    refine .inr (za se k fun da va H1 e1 p1 k1=>?_);rw [q]at e1;cases e1;cases p1.rb.strong (by intro _ z;cases z)with
    |tup h2 r2=>
     refine⟨_,rfl,⟨_,by rw [O.K];exact zO qab h2⟩,k1 _ H1 p1.same (fun H2 S2 s1 s2 _=>qhn (by rw [O.K];exact zO (s2.trans qab) h2) (r2.mono s2)) fun ho H2 S2 s2 _=>qhn (by rw [O.K];exact zO (s2.trans qab) h2) (r2.mono s2)⟩
   |_=>rw [q]at k;exact k.elim
theorem zC{j:Int}(h:qe j=true):-1000000≤j∧j≤1000000:=by simpa [qe]using h
theorem qqI(O:XO w g c E X){x:Str}{tg:Expr}(h:glob c x=some .rng)(ha:PE X a (tE w g c E ia))(hs:isStar a=false):PI X tg (.Call (.Name x p2) [a] [] pos) (tIt w g c E (.rng ia)):=by
 obtain⟨h1,rfl⟩:=O.gm h;refine PI.imp (qlq (O.gl h) h1 (zj ha zP (qg hs)) (qg hs)) fun σ H R ⟨τ,S,se,k⟩=>?_
 simp only [evI]at k;refine za se k fun da va H1 e1 p1 k1=>?_
 cases da with
 |int j=>
  simp only at k1;cases q:qe j with
  |true=>
   rw [q,if_pos rfl]at k1;obtain⟨z1,z2⟩:=zC q;exact⟨j,by rw [p1.rb.int],by lia,by lia,k1 _ H1 p1.same (fun _ _ _ _ _=>qbX) fun _ _ _ _ _=>qbX⟩
  |false=>rw [q]at k1;exact k1.elim
 |_=>exact k1.elim
theorem qpe(O:XO w g c E X){x:Str}{tg:Expr}(h:glob c x=some .rng)(ha:PE X a (tE w g c E ia))(hb:PE X b (tE w g c E ib))(hs:isStar a=false)(hs':isStar b=false):PI X tg (.Call (.Name x p2) [a,b] [] pos) (tIt w g c E (.rng2 ia ib)):=by
 obtain⟨h1,rfl⟩:=O.gm h;refine PI.imp (qkW (O.gl h) h1 (zj ha (zj hb zP (qg hs')) (qg hs)) (by rw [qg hs,qg hs'];rfl) (qg hs')) fun σ H R ⟨τ,S,se,k⟩=>?_
 simp only [evI]at k;refine za se k fun da va H1 e1 p1 k1=>za (se.up p1.same) k1 fun db vb H2 e2 p2 k2=>?_
 cases da with
 |int i=>
  cases db with
  |int j=>
   simp only at k2;cases q:qe i&&qe j with
   |true=>
    rw [q,if_pos rfl]at k2;simp only [Bool.and_eq_true]at q;obtain⟨z1,z2⟩:=zC q.1;obtain⟨z3,z4⟩:=zC q.2;exact⟨i,j,by rw [p1.rb.int,p2.rb.int],⟨by lia,by lia,by lia,by lia⟩,k2 _ H2 (p1.same.trans p2.same) (fun _ _ _ _ _=>qbX) fun _ _ _ _ _=>qbX⟩
   |false=>rw [q]at k2;exact k2.elim
  |_=>exact k2.elim
 |_=>exact k2.elim
theorem qow(O:XO w g c E X){x:Str}{tg d:Expr}{id:EV.E}(h:glob c x=some .rng)(ha:PE X a (tE w g c E ia))(hb:PE X b (tE w g c E ib))(hd:PE X d (tE w g c E id))(hs:isStar a=false)(hs':isStar b=false)(hs'':isStar d=false):PI X tg (.Call (.Name x p2) [a,b,d] [] pos) (tIt w g c E (.rng3 ia ib id)):=by
 obtain⟨h1,rfl⟩:=O.gm h;refine PI.imp (qlp (O.gl h) h1 (zj ha (zj hb (zj hd zP (qg hs'')) (qg hs')) (qg hs)) (qg hs) (by rw [qg hs',qg hs''];rfl)) fun σ H R ⟨τ,S,se,k⟩=>?_
 simp only [evI]at k;refine za se k fun da va H1 e1 p1 k1=>za (se.up p1.same) k1 fun db vb H2 e2 p2 k2=>za ((se.up p1.same).up p2.same) k2 fun dd vd H3 e3 p3 k3=>?_
 cases da with
 |int i=>
  cases db with
  |int j=>
   cases dd with
   |int l=>
    simp only at k3;cases q:qe i&&qe j&&(decide (0<l)&&qe l)with
    |true=>
     rw [q,if_pos rfl]at k3;simp only [Bool.and_eq_true,decide_eq_true_eq]at q;obtain⟨z1,z2⟩:=zC q.1.1;obtain⟨z3,z4⟩:=zC q.1.2;obtain⟨z5,z6⟩:=zC q.2.2;exact⟨i,j,l,by rw [p1.rb.int,p2.rb.int,p3.rb.int],⟨z1,z2,z3,z4,q.2.1,z6⟩,k3 _ H3 ((p1.same.trans p2.same).trans p3.same) (fun _ _ _ _ _=>qet) fun _ _ _ _ _=>qet⟩
    |false=>rw [q]at k3;exact k3.elim
   |_=>exact k3.elim
  |_=>exact k3.elim
 |_=>exact k3.elim
theorem qpQ(O:XO w g c E X){x:Str}{es:List Expr}{ek:Nat}{epos:Pos}(h:glob c x=some .enum)(ha:PE X a (tE w g c E ia))(hs:isStar a=false):PI X (.Tuple es ek epos) (.Call (.Name x p2) [a] [] pos) (tIt w g c E (.enum ia)):=by
 obtain⟨h1,rfl⟩:=O.gm h;refine PI.imp (qpb (O.gl h) h1 (by decide +kernel) (zj ha zP (qg hs)) (qg hs)) fun σ H R ⟨τ,S,se,k⟩=>?_
 simp only [evI]at k;refine za se k fun da va H1 e1 p1 k1=>?_
 cases da with
 |lst ds=>
  obtain⟨ad,vs,rfl,h1,r1⟩:=p1.rb.lst;rw [←O.K]at h1;refine⟨ad,rfl,⟨vs,h1⟩,k1 _ H1 p1.same (fun H2 S2 s1 s2 s3=>qgB (s1.seq h1) (r1.mono s2) s3) fun ho H2 S2 s2 s3=>?_⟩;have he:esc ia=true:=by
   cases ia<;>first|rfl|(simp [owned]at ho)
  cases p1.st he with
  |lst h2 r2=>exact qgB (by rw [O.K];exact(s2.trans qab).seq h2) (r2.mono s2) s3
 |_=>exact k1.elim
theorem qsm(O:XO w g c E X){x:Str}{es:List Expr}{ek:Nat}{epos:Pos}(h:glob c x=some .zip)(ha:PE X a (tE w g c E ia))(hb:PE X b (tE w g c E ib))(hs:isStar a=false)(hs':isStar b=false):PI X (.Tuple es ek epos) (.Call (.Name x p2) [a,b] [] pos) (tIt w g c E (.zip ia ib)):=fun pins s σ H R I ⟨τ,S,se,kk⟩=>by
 simp only [evI]at kk;exact False.elim kk
end
noncomputable def qdS:List Nat→TGs
 | []=>qqf
 |i::is=>qoq (qcH i) (qdS is)
noncomputable def gT(K:PySem.W.Frag):Tg→TG
 | .nm i=>qcH i
 | .tp is=>qrX K is.length (qdS is)
section
variable{w:W}{g:Gc}{c:Cc}{E:XK}{X:Cx}
theorem zy{x:Str}{i:Nat}(h:zX c x=some i):loc c x=some i∧(c.nm.lookup x=some .local∨(c.nm.lookup x=some .cell∧(c.fnc=true∨c.oc.contains x=true))):=by
 unfold zX at h;split at h
 ·rename_i q;exact⟨h,.inl q⟩
 ·rename_i q
  split at h
  ·rename_i z;exact⟨h,.inr ⟨q,by simpa using z⟩⟩
  ·cases h
 ·cases h
theorem qoe(O:XO w g c E X){x:Str}{i:Nat}{pos:Pos}(h:zX c x=some i):PG X (.Name x pos) (qcH i):=by
 obtain⟨h1,h2⟩:=zy h;obtain⟨h3,_⟩:=zB h1;refine qpc (by rw [O.N];exact O.nd) (by rw [O.N];exact h3) (by unfold L2.Loc;rw [O.nm];rcases h2 with z|z;exact .inl z;exact .inr z.1) ?_;rcases h2 with z|z
 ·exact .inr (by rw [O.nm];exact z)
 ·exact .inl (O.fn x z.2)
theorem qdM:∀{es:List Expr}{xs:List Str},qca es=some xs→∃ps:List Pos,es=(xs.zip ps).map (fun p=>Expr.Name p.1 p.2)∧ps.length=xs.length
 | [],xs,h=>by simp [qca]at h;subst h;exact⟨[],rfl,rfl⟩
 |e::es,xs,h=>by
  cases e with
  |Name y p=>
   simp only [qca,Option.map_eq_some_iff]at h;obtain⟨ys,h1,rfl⟩:=h;obtain⟨ps,h2,h3⟩:=qdM h1;exact⟨p::ps,by rw [h2];rfl,by simp [h3]⟩
  |_=>simp [qca]at h
theorem qgJ(O:XO w g c E X):∀{xs:List Str}{ps:List Pos}{is:List Nat},ps.length=xs.length→xs.mapM (zX c)=some is →
  PGs X ((xs.zip ps).map fun p=>Expr.Name p.1 p.2) (qdS is)∧(assignEach ((xs.zip ps).map fun p=>Expr.Name p.1 p.2) X.env).length=is.length∧(assignEach ((xs.zip ps).map fun p=>Expr.Name p.1 p.2) X.env).findIdx? (·.1)=none
 | [],ps,is,_,h=>by
  simp at h;subst h;exact⟨qoG,rfl,rfl⟩
 |x::xs,[],_,h,_=>by simp at h
 |x::xs,p::ps,is,hl,h=>by
  simp only [List.mapM_cons,Option.bind_eq_bind,Option.bind_eq_some_iff]at h;obtain⟨i,h1,js,h2,h3⟩:=h;cases h3;obtain⟨r1,r2,r3⟩:=qgJ O (xs:=xs) (ps:=ps) (by simpa using hl) h2;refine⟨qmt (qoe O h1) r1 rfl,?_,?_⟩
  ·show (assignEach ((xs.zip ps).map fun p=>Expr.Name p.1 p.2) X.env).length+1=js.length+1;rw [r2]
  ·show List.findIdx? (·.1) ((false,_)::assignEach ((xs.zip ps).map fun p=>Expr.Name p.1 p.2) X.env)=none;rw [List.findIdx?_cons];simp only [Bool.false_eq_true,if_false];rw [r3];rfl
theorem qeB(O:XO w g c E X){e:Expr}{tg:Tg}(h:cTg c e=some tg):PG X e (gT X.K tg):=by
 cases e with
 |Name x p=>
  simp only [cTg]at h;split at h
  ·cases h
  ·simp only [Option.map_eq_some_iff]at h;obtain⟨i,h1,rfl⟩:=h;exact qoe O h1
 |Tuple es k p=>
  simp only [cTg]at h;split at h
  ·rename_i hc
   simp only [Option.bind_eq_bind,Option.bind_eq_some_iff]at h;obtain⟨xs,h1,h⟩:=h;split at h
   ·cases h
   ·simp only [Option.bind_eq_some_iff]at h;obtain⟨is,h2,h⟩:=h;split at h
    ·cases h;obtain⟨ps,rfl,hl⟩:=qdM h1;obtain⟨r1,r2,r3⟩:=qgJ O hl h2;exact qrc (O.calm hc) r1 r2 r3
    ·cases h
  ·cases h
 |_=>simp [cTg]at h
noncomputable def qdN(c:Cc):Tg→Prop
 | .nm i=>∀x,c.N[i]? = some x→c.own.contains x=false
 | .tp is=>∀i∈is,∀x,c.N[i]? = some x→c.own.contains x=false
theorem qhb{α β:Type}{f:α→Option β}:∀{xs:List α}{ys:List β},xs.mapM f=some ys→∀y∈ys,∃x∈xs,f x=some y
 | [],ys,h,y,hy=>by simp at h;subst h;simp at hy
 |x::xs,ys,h,y,hy=>by
  simp only [List.mapM_cons,Option.bind_eq_bind,Option.bind_eq_some_iff]at h;obtain⟨z,h1,zs,h2,h3⟩:=h;cases h3;rcases List.mem_cons.mp hy with rfl|hy
  ·exact⟨x,List.mem_cons_self,h1⟩
  ·obtain⟨x',h4,h5⟩:=qhb h2 y hy;exact⟨x',List.mem_cons_of_mem _ h4,h5⟩
theorem qeS{e:Expr}{tg:Tg}(h:cTg c e=some tg):qdN c tg:=by
 have one:∀{x:Str}{i:Nat},c.own.contains x=false→zX c x=some i→∀y,c.N[i]? = some y→c.own.contains y=false:=fun {x i} ho hl y hy=>by
  obtain⟨h3,_⟩:=zB (zy hl).1;rw [h3]at hy;cases hy;exact ho
 cases e with
 |Name x p=>
  simp only [cTg]at h;split at h
  ·cases h
  ·rename_i ho
   simp only [Option.map_eq_some_iff]at h;obtain⟨i,h1,rfl⟩:=h;exact one (by simpa using ho) h1
 |Tuple es k p=>
  simp only [cTg]at h;split at h
  ·simp only [Option.bind_eq_bind,Option.bind_eq_some_iff]at h;obtain⟨xs,h1,h⟩:=h;split at h
   ·cases h
   ·rename_i ho
    simp only [Option.bind_eq_some_iff]at h;obtain⟨is,h2,h⟩:=h;split at h
    ·cases h;intro i hi;obtain⟨x,hx,hl⟩:=qhb h2 i hi;refine one ?_ hl;cases q:c.own.contains x with
     |false=>rfl
     |true=>exact absurd (List.any_eq_true.mpr ⟨x,hx,q⟩) ho
    ·cases h
  ·cases h
 |_=>simp [cTg]at h
section
variable{τ τ':Env}{σ:L2.St}{H:Hp}{S:Sh}
theorem SE.set{i:Nat}{d:D}{v:V}(se:SE g c τ σ H S)(r:Rep g (hid H S) d v):SE g c (τ.set i (some d)) (σ.set i (some v)) H S:=by
 refine⟨by simp [se.len],fun j e h=>?_,se.sub⟩;by_cases hij:i=j
 ·subst hij;by_cases hi:i<τ.length
  ·simp [hi]at h;subst h;have hi':i<σ.length:=by rw [←se.len];exact hi
   exact⟨v,by simp [hi'],.inl r,fun _ _ _=>r⟩
  ·rw [List.set_eq_of_length_le (by lia)]at h;rw [List.getElem?_eq_none (by lia)]at h;cases h
 ·rw [List.getElem?_set_ne hij]at h ⊢;exact se.val j e h
theorem SE.setAll{is:List Nat}:∀{ds:List D}{vs:List V}{τ:Env}{σ:L2.St}{Q:L2.St→Hp→Prop},SE g c τ σ H S→qh g (hid H S) ds vs→setAll is ds τ=.ok τ'→(∀σ',SE g c τ' σ' H S→Q σ' H)→qdS is vs σ H Q:=by
 induction is with
 |nil=>
  intro ds vs τ σ Q se r h k;cases r with
  |nil=>cases (show R.ok τ=R.ok τ' from h);exact⟨rfl,k σ se⟩
  |cons _ _=>cases (show R.no=R.ok τ' from h)
 |cons i is ih=>
  intro ds vs τ σ Q se r h k;cases r with
  |nil=>cases (show R.no=R.ok τ' from h)
  |cons r rs=>exact⟨_,_,rfl,ih (se.set r) rs h k⟩
theorem qeP(O:X.K=g.K){tg:Tg}{d:D}{v:V}{Q:L2.St→Hp→Prop}(se:SE g c τ σ H S)(r:Rep g (hid H S) d v)(h:store tg d τ=.ok τ')(k:∀σ',SE g c τ' σ' H S→Q σ' H):gT X.K tg v σ H Q:=by
 cases tg with
 |nm i=>
  simp only [store,R.ok.injEq]at h;subst h;exact k _ (se.set r)
 |tp is=>
  cases d with
  |tup ds=>
   simp only [store]at h;split at h
   ·rename_i hl
    cases r with
    |tup h1 r1=>exact⟨_,_,rfl,by rw [O];exact zO qab h1,by rw [←r1.length];exact hl,se.setAll r1 h k⟩
   ·cases h
  |_=>simp [store]at h
end
end
abbrev zv(c:Cc)(sc:Scope):Cc:={c with nm:=qff sc.names c.nm,N:=zt sc.names,fnc:=false,oc:=qfV sc.names}
section
variable{w:W}{g:Gc}{c:Cc}{E:XK}{X:Cx}
theorem XO.comp(O:XO w g c E X){sc:Scope}(hk:sc.kind=.function)(hnd:(zt sc.names).Nodup)(cl:List (Str×Addr))(C:Addr)(s₀:Shared)(H₀:Hp)(fp:List Addr):XO w g (zv c sc) E0 (zu X (zt sc.names) sc cl C s₀ H₀ fp) where
 K:=O.K
 nm:=by
  show (relabel sc X.env).names=qff sc.names c.nm;unfold relabel qff;simp only
  congr 1
  funext p;have h1:(X.env.scope.kind==ScopeKind.function)=true:=by rw [O.kind];rfl
  have h2:X.env.kindOf p.1=c.nm.lookup p.1:=by show X.env.scope.names.lookup p.1=_;rw [O.nm]
  obtain⟨n,k⟩:=p;simp only at h2;simp only [h1,h2,Bool.and_true]
 N:=rfl
 nd:=hnd
 calm:=O.calm
 units:=O.units
 fn:=fun x z=>z.elim (fun z=>by cases z) fun z=>z
 kind:=hk
 pass:=qls rfl rfl
 gok:=O.gok
 fns:=O.fns
 sub:=O.sub
theorem qrn{α:Type}{τ:Env}{σ:L2.St}{H:Hp}{S:Sh}{it:It}{f:List D→R α}{P:α→Prop}{R':L2.It→Hp→Prop}(se:SE g c τ σ H S)(h:tR g E H ((evI w it τ).bind f) P)
  (k:∀ds J H',evI w it τ=.ok ds→qf H H'→(∀H2 S2,qf H' H2→qf (hid H' S) (hid H2 S2)→Sub S2 H2→Goes g J ds H2 S2)→(owned it=false→∀H2 S2,qf (hid H' S) (hid H2 S2)→Sub S2 H2→Goes g J ds H2 S2)→tR g E H' (f ds) P→R' J H'):tIt w g c E it σ H R':=by
 refine⟨τ,S,se,?_⟩;cases q:evI w it τ with
 |ok d=>rw [q]at h;exact fun J H' s k1 k2=>k d J H' q s k1 k2 (tR.up h s)
 |ex x=>rw [q]at h;exact h
 |no=>rw [q]at h;exact h
theorem qiZ{α:Type}{r:R α}{x:Str}:noEx r≠.ex x:=by cases r<;>intro h<;>cases h
theorem qjo{α:Type}{r:R α}{a:α}(h:noEx r=.ok a):r=.ok a:=by cases r<;>first|exact h|cases h
theorem qeG{body:D→Env→R (Env×List D)}(hb:∀d τ x,body d τ≠.ex x):∀{ds:List D}{τ:Env}{acc:List D}{x:Str},zA body ds τ acc≠.ex x
 | [],_,_,_,h=>by cases h
 |d::r,τ,acc,x,h=>by
  simp only [zA]at h;cases q:body d τ with
  |ok p=>rw [q]at h;exact qeG hb h
  |ex y=>exact hb _ _ _ q
  |no=>rw [q]at h;cases h
theorem SE.caps{sc:Scope}{cap:List (Option Nat)}{τ:Env}{σ:L2.St}{H:Hp}{S:Sh}(O:XO w g c E X)(hc:qnW X (zt sc.names) cap sc)(se:SE g c τ σ H S):SE g (zv c sc) (qaz cap τ) (L2.caps cap σ) H S:=by
 refine⟨by simp [qaz,L2.caps],fun i d h=>?_,se.sub⟩;unfold qaz at h;rw [List.getElem?_map]at h;cases q:cap[i]? with
 |none=>rw [q]at h;cases h
 |some o=>
  cases o with
  |none=>rw [q]at h;cases h
  |some j=>
   rw [q]at h;simp only [Option.map_some,Option.bind_some,Option.some.injEq]at h;cases q2:τ[j]? with
   |none=>rw [q2]at h;cases h
   |some z=>
    rw [q2]at h;cases z with
    |none=>cases h
    |some d'=>
     have:d'=d:=by simpa using h
     subst this;obtain⟨v,h1,h2,h3⟩:=se.val j d' q2;refine⟨v,?_,h2,fun x hx ho=>?_⟩
     ·unfold L2.caps;rw [List.getElem?_map,q];simp [h1]
     ·obtain⟨y,e1,e2,_⟩:=hc.2 i j q;have hx':(zt sc.names)[i]? = some x:=hx;rw [e1]at hx';cases hx';exact h3 _ (by rw [←O.N];exact e2) ho
theorem qbx{H:Hp}{S:Sh}{p:Addr}{o:HO}(h:S.h p=true):hid (upd H p o) S=hid H S:=by
 funext b;unfold hid;by_cases hb:b=p
 ·subst hb;rw [if_pos h,if_pos h]
 ·rw [qt hb]
theorem SE.grow{c:Cc}{τ:Env}{σ:L2.St}{H:Hp}{S:Sh}{p:Addr}{o:HO}(se:SE g c τ σ H S)(h:S.h p=true)(ho:S.o p=false):SE g c τ σ (upd H p o) S:=by
 refine⟨se.len,fun i d e=>?_,fun a ha n=>?_⟩
 ·obtain⟨v,h1,h2,h3⟩:=se.val i d e;refine⟨v,h1,?_,fun x hx hy=>by rw [qbx h];exact h3 x hx hy⟩;rcases h2 with h2|⟨a,vs,ds,z1,z2,z3,z4,z5⟩
  ·exact .inl (by rw [qbx h];exact h2)
  ·refine .inr ⟨a,vs,ds,z1,z2,z3,?_,by rw [qbx h];exact z5⟩;rw [qt (fun z=>by rw [z,ho]at z1;cases z1)];exact z4
 ·by_cases hb:a=p
  ·subst hb;rw [zq]at n;cases n
  ·rw [qt hb]at n;exact se.sub a ha n
theorem SE.hide{c:Cc}{τ:Env}{σ:L2.St}{H:Hp}{S:Sh}{p:Addr}{vs:List V}(se:SE g c τ σ H S)(hp:H p=none):SE g c τ σ (upd H p (.lst vs)) (zH S p):=by
 refine⟨se.len,fun i d e=>?_,fun a ha n=>?_⟩
 ·obtain⟨v,h1,h2,h3⟩:=se.val i d e;refine⟨v,h1,?_,fun x hx hy=>(h3 x hx hy).mono (qdp hp)⟩;rcases h2 with h2|⟨a,vs,ds,z1,z2,z3,z4,z5⟩
  ·exact .inl (h2.mono (qdp hp))
  ·exact .inr ⟨a,vs,ds,z1,z2,z3,qu hp _ _ z4,z5.mono (qdp hp)⟩
 ·by_cases hb:a=p
  ·subst hb;rw [zq]at n;cases n
  ·rw [qt hb]at n;refine se.sub a ?_ n;rcases ha with ha|ha
   ·refine .inl ?_;have ha:(S.h a||a==p)=true:=ha
    simpa [hb]using ha
   ·exact .inr ha
theorem qdK(O:XO w g c E X){sc:Scope}{cap:List (Option Nat)}{iit:It}{itg:Tg}{tt:T}{ielt:EV.E}(hS:zJ X (zt sc.names) cap sc)(he:esc ielt=true){σ:L2.St}{H:Hp}{Q:VK}(hq:tE w g c E (.comp iit cap itg tt ielt) σ H Q) :
  qgW cap (tIt w g c E iit) (gT X.K itg) (tT w g (zv c sc) E0 tt) (fun acc=>qdv acc (tE w g (zv c sc) E0 ielt)) σ H Q:=by
 obtain⟨τ,S,se,k⟩:=hq;simp only [qX,zc,zb,zh,zf,qY,ze,zi,zg,qK,qB,qJ,qD,qF,qW,qI,qC,qw,qL,qH,qP,qr,qA,qR,qE,qx,qO,qN,qS,qM,qQ,qU,qV,qG,qT]at k;refine qrn se k fun ds J H1 e1 s1 kW _ k1 acc hacc=>?_
 by_cases hz:SZ<ds.length
 ·rw [if_pos hz]at k1;exact k1.elim
 rw [if_neg hz]at k1;generalize hbody:(fun x σ=>noEx ((store itg x σ).bind fun σ'=>(evT w tt σ').bind fun r=>if r=true then (evE w ielt σ').bind fun d=>R.ok (σ',[d])else R.ok (σ',[])))=body at k1;have bex:∀d τ x,body d τ≠.ex x:=fun d τ x=>by rw [←hbody];exact qiZ
 cases hl:zA body ds (qaz cap τ) []with
 |ex z=>exact absurd hl (qeG bex)
 |no=>rw [hl]at k1;exact k1.elim
 |ok out=>
  rw [hl]at k1;simp only [R.bind_ok]at k1;have k1:∀v H',qck g c (.comp iit cap itg tt ielt) S H (.lst out) v H'→Q v H':=k1;have sub1:=se.sub.same s1;have hoacc:S.o acc=false:=sub1.freeO hacc;have hhacc:(zH S acc).h acc=true:=by show (S.h acc||acc==acc)=true;simp
  -- what holds between two turns
  refine⟨fun i m σ' H'=>m=ds.length-i∧i≤ds.length∧∃τ' o,zA body (ds.drop i) τ' o=.ok out∧SE g (zv c sc) τ' σ' H' (zH S acc)∧o.length≤i∧qf H1 H'∧∃vs,H' acc=some (.lst vs)∧qh g (hid H' (zH S acc)) o vs,
   ⟨ds.length,rfl,Nat.zero_le _,qaz cap τ,[],hl,(se.up s1).caps O hS.cap |>.hide hacc,Nat.le_refl _,qu hacc,[],zq,.nil⟩,?_⟩
  rintro i m σ' H' ⟨rfl,hi',τ',o,hlo,se',hol,s1',vs,hv,hr⟩;have keep:qf (hid H1 S) (hid H' (zH S acc)):=fun b u hb=>by
   obtain⟨z1,z2⟩:=quf.mp hb;refine quf.mpr ⟨?_,s1' _ _ z2⟩;show (S.h b||b==acc)=false;rw [z1]
   simpa using fun z:b=acc=>by rw [z,hacc]at z2;cases z2
  obtain⟨g1,g2⟩:=kW H' (zH S acc) s1' keep se'.sub;by_cases hlt:i<ds.length
  ·have hd:ds[i]? = some ds[i]:=List.getElem?_eq_getElem hlt;obtain⟨go1,go2⟩:=g2 i ds[i] hd;refine .inr ⟨go1,fun σ'' H''=>∃τ' o,zA body (ds.drop (i+1)) τ' o=.ok out∧SE g (zv c sc) τ' σ'' H'' (zH S acc)∧o.length≤i+1∧qf H1 H''∧∃vs,H'' acc=some (.lst vs)∧qh g (hid H'' (zH S acc)) o vs,
    fun σ'' H'' z=>⟨ds.length-(i+1),by lia,rfl,hlt,z⟩,fun x H2 hy=>?_⟩
   obtain⟨s2,rx⟩:=go2 x H2 hy;rw [List.drop_eq_getElem_cons hlt]at hlo;simp only [zA]at hlo;cases q:body ds[i] τ' with
   |ex z=>exact absurd q (bex _ _ _)
   |no=>rw [q]at hlo;cases hlo
   |ok p=>
    rw [q]at hlo;simp only [R.bind_ok]at hlo;rw [←hbody]at q;have q:=qjo q;cases q1:store itg ds[i] τ' with
    |ex z=>rw [q1]at q;cases q
    |no=>rw [q1]at q;cases q
    |ok τ1=>
     rw [q1]at q;simp only [R.bind_ok]at q;refine qeP O.K (se'.up s2) rx q1 fun σ1 se1=>?_
     cases q2:evT w tt τ1 with
     |ex z=>rw [q2]at q;cases q
     |no=>rw [q2]at q;cases q
     |ok r=>
      rw [q2]at q;simp only [R.bind_ok]at q;refine⟨τ1,zH S acc,se1,?_⟩;rw [q2];intro H3 s3;have hv3:=s3 _ _ (s2 _ _ hv);have s13:=s1'.trans (s2.trans s3);cases r with
      |false=>
       simp only [Bool.false_eq_true,if_false,R.ok.injEq]at q;subst q;rw [if_neg Bool.false_ne_true];exact⟨τ1,o++[],hlo,se1.up s3,by simp;lia,s13,vs,hv3,by rw [List.append_nil];exact hr.mono (qk (s2.trans s3))⟩
      |true=>
       simp only [if_true]at q;rw [if_pos rfl];cases q3:evE w ielt τ1 with
       |ex z=>rw [q3]at q;cases q
       |no=>rw [q3]at q;cases q
       |ok dd=>
        rw [q3]at q;simp only [R.bind_ok,R.ok.injEq]at q;subst q;refine⟨τ1,zH S acc,se1.up s3,?_⟩;rw [q3];intro v H4 p4;have hv4:=p4.same _ _ hv3;have hr4:=hr.mono (qk ((s2.trans s3).trans p4.same));have hz':vs.length<sizeLine:=by
         rw [←hr.length,sizeLine_eq];have:ds.length≤SZ:=Nat.le_of_not_lt hz;unfold SZ at this;lia
        refine⟨vs,hv4,hz',τ1,o++[dd],hlo,(se1.up (s3.trans p4.same)).grow hhacc hoacc,by simp;lia,fun b u hb=>?_,vs++[v],zq,?_⟩
        ·rw [qt (fun z=>by rw [z,hacc]at hb;cases hb)];exact p4.same _ _ (s13 _ _ hb)
        ·rw [qbx hhacc];exact hr4.append (.cons (p4.st he) .nil)
  ·have e:i=ds.length:=by lia
   subst e;refine .inl ⟨g1 ds.length (Nat.le_refl _),?_⟩;rw [List.drop_length]at hlo;simp only [zA,R.ok.injEq]at hlo;subst hlo;have rep:Rep g (hid H' S) (.lst o) (.ref acc):=.lst (SqL.of (quf.mpr ⟨sub1.free hacc,hv⟩)) (hr.mono qdX);exact k1 _ _ (qck.new (s1.trans s1') rep ⟨acc,vs,o,rfl,rfl,s1.free hacc,hv,hr⟩)
theorem qqi(O:XO w g c E X)(hcalm:X.calm=true){sc:Scope}{cap:List (Option Nat)}{tgt it elt:Expr}{ifs:List Expr}{pos:Pos}{iit:It}{itg:Tg}{tt:T}{ielt:EV.E}(hS:zJ X (zt sc.names) cap sc)(hnd:(zt sc.names).Nodup)
  (hi:PI X tgt it (tIt w g c E iit)) (hb:∀cl C s₀ H₀ fp,PG (zu X (zt sc.names) sc cl C s₀ H₀ fp) tgt (gT X.K itg)∧PTs (zu X (zt sc.names) sc cl C s₀ H₀ fp) ifs (tT w g (zv c sc) E0 tt)∧PE (zu X (zt sc.names) sc cl C s₀ H₀ fp) elt (tE w g (zv c sc) E0 ielt))
  (he:esc ielt=true) (hs:zd it=true):PE X (.ListComp elt [⟨tgt,it,ifs,0⟩] sc pos) (tE w g c E (.comp iit cap itg tt ielt)):=by
 exact PE.imp (qiB (tb:=fun acc=>qdv acc (tE w g (zv c sc) E0 ielt)) hcalm hS hi (fun cl C s₀ H₀ fp=>⟨(hb cl C s₀ H₀ fp).1,(hb cl C s₀ H₀ fp).2.1,fun acc=>qfM rfl (hb cl C s₀ H₀ fp).2.2⟩) (by simp) (fun x=>by cases it<;>first|rfl|(simp [zd]at hs))) fun σ H Q q=>qdK O hS he q
theorem qgG{body:D→Env→R (Env×List D)}(hb:∀d τ p,body d τ=.ok p→p.2.length≤1):∀{ds:List D}{τ:Env}{acc:List D}{p:Env×List D},qaW body ds τ acc=.ok p→p.2.length≤acc.length+ds.length
 | [],_,_,_,h=>by simp only [qaW,R.ok.injEq]at h;subst h;simp
 |d::r,τ,acc,p,h=>by
  simp only [qaW]at h;cases q:body d τ with
  |ok z=>
   rw [q]at h;have h1:=qgG hb h;have h2:=hb _ _ _ q;rw [List.length_append]at h1;rw [List.length_cons];lia
  |ex y=>rw [q]at h;cases h
  |no=>rw [q]at h;cases h
abbrev qdi(w:W)(tg2:Tg)(tt:T)(ie:EV.E):D→Env→R (Env×List D):=fun y ρ=>(store tg2 y ρ).bind fun ρ'=>(evT w tt ρ').bind fun r=>if r=true then (evE w ie ρ').bind fun d=>R.ok (ρ',[d])else R.ok (ρ',[])
theorem qmf{tg2:Tg}{tt:T}{ie:EV.E}:∀d τ p,qdi w tg2 tt ie d τ=.ok p→p.2.length≤1:=fun d τ p h=>by
 unfold qdi at h;cases q:store tg2 d τ with
 |ok ρ=>
  rw [q]at h;simp only [R.bind_ok]at h;cases q2:evT w tt ρ with
  |ok r=>
   rw [q2]at h;simp only [R.bind_ok]at h;cases r with
   |false=>simp only [Bool.false_eq_true,if_false,R.ok.injEq]at h;subst h;simp
   |true=>
    simp only [if_true]at h;cases q3:evE w ie ρ with
    |ok d=>rw [q3]at h;simp only [R.bind_ok,R.ok.injEq]at h;subst h;simp
    |ex=>rw [q3]at h;cases h
    |no=>rw [q3]at h;cases h
  |ex=>rw [q2]at h;cases h
  |no=>rw [q2]at h;cases h
 |ex=>rw [q]at h;cases h
 |no=>rw [q]at h;cases h
theorem qoy(hK:X.K=g.K){cc:Cc}{it2:It}{tg2:Tg}{tt:T}{ie:EV.E}(he:esc ie=true)(hw:owned it2=false){τ τ2:Env}{σ:L2.St}{H H1:Hp}{S:Sh}{acc:Addr}{o out:List D}{vs:List V}{D:Ends}
  (hh:S.h acc=true) (ho:S.o acc=false) (hacc:H1 acc=none) (s1:qf H1 H) (se:SE g cc τ σ H S) (hv:H acc=some (.lst vs)) (hr:qh g (hid H S) o vs) (hn:o.length≤1000000)
  (hq:((evI w it2 τ).bind fun es=>if 1000<es.length then .no else qaW (qdi w tg2 tt ie) es τ [])=.ok (τ2,out))
  (k:∀σ' H' vs',SE g cc τ2 σ' H' S→qf H1 H'→H' acc=some (.lst vs')→qh g (hid H' S) (o++out) vs'→out.length≤1000→D.nx σ' H') :
  qhs (tIt w g cc E0 it2) (gT X.K tg2) (qdW (tT w g cc E0 tt) (qdv acc (tE w g cc E0 ie)) qbR) D σ H:=by
 cases q:evI w it2 τ with
 |ex z=>rw [q]at hq;cases hq
 |no=>rw [q]at hq;cases hq
 |ok es=>
  rw [q]at hq;simp only [R.bind_ok]at hq;by_cases hz:1000<es.length
  ·rw [if_pos hz]at hq;cases hq
  rw [if_neg hz]at hq;have hol:=qgG qmf hq;rw [List.length_nil]at hol;refine⟨τ,S,se,?_⟩;rw [q];intro J H0 s0 _ kO;have kO:=kO hw;have hid0:=qk (S:=S) s0;refine⟨fun i m σ' H'=>m=es.length-i∧i≤es.length∧∃ρ o2,qaW (qdi w tg2 tt ie) (es.drop i) ρ o2=.ok (τ2,out)∧SE g cc ρ σ' H' S∧o2.length≤i∧qf H1 H'∧qf (hid H0 S) (hid H' S)∧∃vs',H' acc=some (.lst vs')∧qh g (hid H' S) (o++o2) vs',
   ⟨es.length,rfl,Nat.zero_le _,τ,[],hq,se.up s0,Nat.le_refl _,s1.trans s0,fun _ _ z=>z,vs,s0 _ _ hv,by rw [List.append_nil];exact hr.mono hid0⟩,?_⟩
  rintro i m σ' H' ⟨rfl,hi',ρ,o2,hlo,se',hol2,s1',sh,vs',hv',hr'⟩;obtain⟨g1,g2⟩:=kO H' S sh se'.sub;by_cases hlt:i<es.length
  ·have hd:es[i]? = some es[i]:=List.getElem?_eq_getElem hlt;obtain⟨go1,go2⟩:=g2 i es[i] hd;refine .inr ⟨go1,fun σ'' H''=>∃ρ o2,qaW (qdi w tg2 tt ie) (es.drop (i+1)) ρ o2=.ok (τ2,out)∧SE g cc ρ σ'' H'' S∧o2.length≤i+1∧qf H1 H''∧qf (hid H0 S) (hid H'' S)∧∃vs',H'' acc=some (.lst vs')∧qh g (hid H'' S) (o++o2) vs',
    fun σ'' H'' z=>⟨es.length-(i+1),by lia,rfl,hlt,z⟩,fun x H2 hy=>?_⟩
   obtain⟨s2,rx⟩:=go2 x H2 hy;rw [List.drop_eq_getElem_cons hlt]at hlo;simp only [qaW]at hlo;cases q0:qdi w tg2 tt ie es[i] ρ with
   |ex z=>rw [q0]at hlo;cases hlo
   |no=>rw [q0]at hlo;cases hlo
   |ok p=>
    rw [q0]at hlo;simp only [R.bind_ok]at hlo;unfold qdi at q0;cases q1:store tg2 es[i] ρ with
    |ex z=>rw [q1]at q0;cases q0
    |no=>rw [q1]at q0;cases q0
    |ok ρ1=>
     rw [q1]at q0;simp only [R.bind_ok]at q0;refine qeP hK (se'.up s2) rx q1 fun σ1 se1=>?_
     cases q2:evT w tt ρ1 with
     |ex z=>rw [q2]at q0;cases q0
     |no=>rw [q2]at q0;cases q0
     |ok r=>
      rw [q2]at q0;simp only [R.bind_ok]at q0;refine⟨ρ1,S,se1,?_⟩;rw [q2];intro H3 s3;have hv3:=s3 _ _ (s2 _ _ hv');have s13:=s1'.trans (s2.trans s3);have sh3:=sh.trans (qk (S:=S) (s2.trans s3));cases r with
      |false=>
       simp only [Bool.false_eq_true,if_false,R.ok.injEq]at q0;subst q0;rw [if_neg Bool.false_ne_true];exact⟨ρ1,o2++[],hlo,se1.up s3,by simp;lia,s13,sh3,vs',hv3,by rw [List.append_nil];exact hr'.mono (qk (s2.trans s3))⟩
      |true=>
       simp only [if_true]at q0;rw [if_pos rfl];cases q3:evE w ie ρ1 with
       |ex z=>rw [q3]at q0;cases q0
       |no=>rw [q3]at q0;cases q0
       |ok dd=>
        rw [q3]at q0;simp only [R.bind_ok,R.ok.injEq]at q0;subst q0;refine⟨ρ1,S,se1.up s3,?_⟩;rw [q3];intro v H4 p4;have hv4:=p4.same _ _ hv3;have hr4:=hr'.mono (qk ((s2.trans s3).trans p4.same));have hz':vs'.length<sizeLine:=by
         have:=hr'.length;rw [List.length_append]at this;rw [←this,sizeLine_eq];lia
        refine⟨vs',hv4,hz',ρ1,o2++[dd],hlo,(se1.up (s3.trans p4.same)).grow hh ho,by simp;lia,fun b u hb=>?_,?_,vs'++[v],zq,?_⟩
        ·rw [qt (fun z=>by rw [z,hacc]at hb;cases hb)];exact p4.same _ _ (s13 _ _ hb)
        ·rw [qbx hh];exact sh3.trans (qk p4.same)
        ·rw [qbx hh,←List.append_assoc];exact hr4.append (.cons (p4.st he) .nil)
  ·have e:i=es.length:=by lia
   subst e;refine .inl ⟨g1 es.length (Nat.le_refl _),?_⟩;rw [List.drop_length]at hlo;simp only [qaW,R.ok.injEq]at hlo;cases hlo;exact k σ' H' vs' se' s1' hv' hr' (by lia)
theorem qgR(O:XO w g c E X){sc:Scope}{cap:List (Option Nat)}{iit it2:It}{itg tg2:Tg}{tt:T}{ielt:EV.E}(hS:zJ X (zt sc.names) cap sc)(he:esc ielt=true)(hw:owned it2=false){σ:L2.St}{H:Hp}{Q:VK}(hq:tE w g c E (.comp2 iit cap itg it2 tg2 tt ielt) σ H Q) :
  qgW cap (tIt w g c E iit) (gT X.K itg) qqp (fun acc=>qhs (tIt w g (zv c sc) E0 it2) (gT X.K tg2) (qdW (tT w g (zv c sc) E0 tt) (qdv acc (tE w g (zv c sc) E0 ielt)) qbR)) σ H Q:=by
 obtain⟨τ,S,se,k⟩:=hq;simp only [qX,zc,zb,zh,zf,qY,ze,zi,zg,qK,qB,qJ,qD,qF,qW,qI,qC,qw,qL,qH,qP,qr,qA,qR,qE,qx,qO,qN,qS,qM,qQ,qU,qV,qG,qT]at k;refine qrn se k fun ds J H1 e1 s1 kW _ k1 acc hacc=>?_
 by_cases hz:1000<ds.length
 ·rw [if_pos hz]at k1;exact k1.elim
 rw [if_neg hz]at k1;generalize hbody:(fun x σ=>noEx ((store itg x σ).bind fun σ'=>(evI w it2 σ').bind fun es=>if 1000<es.length then R.no else qaW (fun y ρ=>(store tg2 y ρ).bind fun ρ'=>(evT w tt ρ').bind fun r=>if r=true then (evE w ielt ρ').bind fun d=>R.ok (ρ',[d])else R.ok (ρ',[])) es σ' []))=body at k1;have bex:∀d τ x,body d τ≠.ex x:=fun d τ x=>by rw [←hbody];exact qiZ
 cases hl:zA body ds (qaz cap τ) []with
 |ex z=>exact absurd hl (qeG bex)
 |no=>rw [hl]at k1;exact k1.elim
 |ok out=>
  rw [hl]at k1;simp only [R.bind_ok]at k1;have k1:∀v H',qck g c (.comp2 iit cap itg it2 tg2 tt ielt) S H (.lst out) v H'→Q v H':=k1;have sub1:=se.sub.same s1;have hoacc:S.o acc=false:=sub1.freeO hacc;have hhacc:(zH S acc).h acc=true:=by show (S.h acc||acc==acc)=true;simp
  refine⟨fun i m σ' H'=>m=ds.length-i∧i≤ds.length∧∃τ' o,zA body (ds.drop i) τ' o=.ok out∧SE g (zv c sc) τ' σ' H' (zH S acc)∧o.length≤1000 * i∧qf H1 H'∧∃vs,H' acc=some (.lst vs)∧qh g (hid H' (zH S acc)) o vs,
   ⟨ds.length,rfl,Nat.zero_le _,qaz cap τ,[],hl,(se.up s1).caps O hS.cap |>.hide hacc,Nat.le_refl _,qu hacc,[],zq,.nil⟩,?_⟩
  rintro i m σ' H' ⟨rfl,hi',τ',o,hlo,se',hol,s1',vs,hv,hr⟩;have keep:qf (hid H1 S) (hid H' (zH S acc)):=fun b u hb=>by
   obtain⟨z1,z2⟩:=quf.mp hb;refine quf.mpr ⟨?_,s1' _ _ z2⟩;show (S.h b||b==acc)=false;rw [z1]
   simpa using fun z:b=acc=>by rw [z,hacc]at z2;cases z2
  obtain⟨g1,g2⟩:=kW H' (zH S acc) s1' keep se'.sub;by_cases hlt:i<ds.length
  ·have hd:ds[i]? = some ds[i]:=List.getElem?_eq_getElem hlt;obtain⟨go1,go2⟩:=g2 i ds[i] hd;refine .inr ⟨go1,fun σ'' H''=>∃τ' o,zA body (ds.drop (i+1)) τ' o=.ok out∧SE g (zv c sc) τ' σ'' H'' (zH S acc)∧o.length≤1000 * (i+1)∧qf H1 H''∧∃vs,H'' acc=some (.lst vs)∧qh g (hid H'' (zH S acc)) o vs,
    fun σ'' H'' z=>⟨ds.length-(i+1),by lia,rfl,hlt,z⟩,fun x H2 hy=>?_⟩
   obtain⟨s2,rx⟩:=go2 x H2 hy;rw [List.drop_eq_getElem_cons hlt]at hlo;simp only [zA]at hlo;cases q:body ds[i] τ' with
   |ex z=>exact absurd q (bex _ _ _)
   |no=>rw [q]at hlo;cases hlo
   |ok p=>
    rw [q]at hlo;simp only [R.bind_ok]at hlo;rw [←hbody]at q;have q:=qjo q;cases q1:store itg ds[i] τ' with
    |ex z=>rw [q1]at q;cases q
    |no=>rw [q1]at q;cases q
    |ok τ1=>
     rw [q1]at q;simp only [R.bind_ok]at q;refine qeP O.K (se'.up s2) rx q1 fun σ1 se1=>?_
     refine qoy (τ2:=p.1) (out:=p.2) O.K he hw hhacc hoacc hacc (s1'.trans s2) se1 (s2 _ _ hv) (hr.mono (qk s2)) (by lia) q fun σ3 H3 vs3 se3 s3 hv3 hr3 hl3=>⟨p.1,o++p.2,hlo,se3,by rw [List.length_append];lia,s3,vs3,hv3,hr3⟩
  ·have e:i=ds.length:=by lia
   subst e;refine .inl ⟨g1 ds.length (Nat.le_refl _),?_⟩;rw [List.drop_length]at hlo;simp only [zA,R.ok.injEq]at hlo;subst hlo;have rep:Rep g (hid H' S) (.lst o) (.ref acc):=.lst (SqL.of (quf.mpr ⟨sub1.free hacc,hv⟩)) (hr.mono qdX);exact k1 _ _ (qck.of (s1.trans s1') rep rfl)
theorem qfn{it:Expr}{env:PySem.Env}(hs:zd it=true)(x:Value):foldedSetIterable it env x=pure x:=by cases it<;>first|rfl|(simp [zd]at hs)
theorem qpO(O:XO w g c E X)(hcalm:X.calm=true){sc:Scope}{cap:List (Option Nat)}{tgt it tgt2 it2 elt:Expr}{ifs2:List Expr}{pos:Pos}{iit ii2:It}{itg tg2:Tg}{tt:T}{ielt:EV.E}(hS:zJ X (zt sc.names) cap sc)(hnd:(zt sc.names).Nodup)
  (hi:PI X tgt it (tIt w g c E iit)) (hb:∀cl C s₀ H₀ fp,PG (zu X (zt sc.names) sc cl C s₀ H₀ fp) tgt (gT X.K itg)∧PI (zu X (zt sc.names) sc cl C s₀ H₀ fp) tgt2 it2 (tIt w g (zv c sc) E0 ii2)∧PG (zu X (zt sc.names) sc cl C s₀ H₀ fp) tgt2 (gT X.K tg2)∧PTs (zu X (zt sc.names) sc cl C s₀ H₀ fp) ifs2 (tT w g (zv c sc) E0 tt)∧PE (zu X (zt sc.names) sc cl C s₀ H₀ fp) elt (tE w g (zv c sc) E0 ielt))
  (he:esc ielt=true) (hw:owned ii2=false) (hs:zd it=true) (hs2:zd it2=true):PE X (.ListComp elt [⟨tgt,it,[],0⟩,⟨tgt2,it2,ifs2,0⟩] sc pos) (tE w g c E (.comp2 iit cap itg ii2 tg2 tt ielt)):=by
 refine PE.imp (qiB (tb:=fun acc=>qhs (tIt w g (zv c sc) E0 ii2) (gT X.K tg2) (qdW (tT w g (zv c sc) E0 tt) (qdv acc (tE w g (zv c sc) E0 ielt)) qbR)) hcalm hS hi (fun cl C s₀ H₀ fp=>⟨(hb cl C s₀ H₀ fp).1,qiJ,fun acc=>?_⟩) (by simp) (qfn hs)) fun σ H Q q=>qgR O hS he hw q
 obtain⟨_,b2,b3,b4,b5⟩:=hb cl C s₀ H₀ fp;exact qpt (g:=⟨tgt2,it2,ifs2,0⟩) hcalm (fun _ _ z=>z) rfl rfl (fun _ h=>by cases h) b2 b3 b4 (qfM rfl b5) (qfn hs2)
end
section
variable{prog:Program}{w:World}{A:Around}{E:Value→Shared→Prop}{s:Shared}
theorem qgM{Q:List Value→Shared→Prop}{r:Addr}{a b c:Int}{t u v:Tok}{n:Nat}(hh:A.handled=none)(hr:IsRange s.heap r a b c t u v)(hsmall:Builtin.Range.small a b c=true)(hn:Builtin.Range.rangeSize a b c=n)(hlen:n≤2^24)
  (hQ:∀h' tk acc,(∀b o',s.heap.get? b=some o'→h'.get? b=some o')→ItemsOf (fun i v=>∃t,v=.int (a+i * c) t) acc n→Q acc.toList {s with heap:=h',toks:=tk}):wpAny (model prog w) A (collect (.ref r)) Q E s:=by
 unfold collect;refine wpAny_bind (wpAny_runValue (codeAny_builtin PySem.F.entry_proto_collect ?_));rw [Around.under_plainId PySem.F.plain_proto_collect _];show wpAny _ A.in1 (newList []>>=fun l=>again (.builtin "list.__iadd__" ⟨[l,.ref r],[]⟩)) _ _ s;refine wpAny_bind (wpAny_newObj_type ?_);refine wpAny_pure ⟨plainId_quiet PySem.F.plain_list_iadd _,codeAny_builtin PySem.F.entry_list_iadd ?_⟩;rw [Around.under_plainId PySem.F.plain_list_iadd _];show wpAny _ A.in1 (Builtin.List.listExtendWith (.ref s.heap.objs.size) (.ref r) (.ref s.heap.objs.size)) _ _ _;have hS:(s.heap.push {cls:=.type "list",data:=.seq ([]:List Value).toArray}).get? s.heap.objs.size=some {cls:=.type "list",data:=.seq #[] 0}:=Heap.get?_push_size _ rfl;have fin':∀(h':Heap) (tk:Nat) (acc:Array Value) (c':Nat),(∀b o,b≠s.heap.objs.size→(s.heap.push {cls:=.type "list",data:=.seq ([]:List Value).toArray}).get? b=some o→h'.get? b=some o)→h'.get? s.heap.objs.size=some {cls:=.type "list",dict:=none,data:=.seq acc c',slots:=#[]} →
   ItemsOf (fun i v=>∃t,v=.int (a+i * c) t) acc n→wpAny (model prog w) A (match Value.ref s.heap.objs.size with
   |Value.ref a=>do
    match (←load a).data with
     |Data.seq xs _=>pure xs.toList
     |_=>unsupported "internal:collect"
   |_=>unsupported "internal:collect") Q E {s with heap:=h',toks:=tk}:=fun h' tk acc c' hk hS' hacc=>by
  show wpAny _ A (load s.heap.objs.size>>=_) _ _ _;refine wpAny_bind (wpAny_load hS' ?_);exact wpAny_pure (hQ h' tk acc (fun b o' hb=>hk b o' (Nat.ne_of_lt (Heap.lt_size hb)) (Heap.get?_push_of_some _ hb)) hacc)
 refine wpAny_mono (wpAny_extend_range (A:=A) (R:=fun r s'=>r=.ok (.ret (.ref s.heap.objs.size))∧∃h' tk acc c',s'={s with heap:=h',toks:=tk}∧(∀b o,b≠s.heap.objs.size→(s.heap.push {cls:=.type "list",data:=.seq ([]:List Value).toArray}).get? b=some o→h'.get? b=some o)∧h'.get? s.heap.objs.size=some {cls:=.type "list",dict:=none,data:=.seq acc c',slots:=#[]}∧ItemsOf (fun i v=>∃t,v=.int (a+i * c) t) acc n)
  (s:={s with heap:=s.heap.push {cls:=.type "list",data:=.seq ([]:List Value).toArray}}) hh (Heap.get?_push_of_some _ hr) hsmall hn hlen _ _ 0 hS fun h' tk acc c' hk hS' hacc=>⟨rfl,h',tk,acc,c',rfl,hk,hS',hacc⟩) (fun fin s' h=>?_) (fun e s' h=>?_)
 ·cases fin with
  |done f=>
   obtain⟨e,h',tk,acc,c',rfl,hk,hS',hacc⟩:=h;cases e;exact fin' h' tk acc c' hk hS' hacc
  |again c'=>exact⟨h.1,codeAny_mono h.2 fun r s'' hr=>by obtain⟨rfl,h',tk,acc,c',rfl,hk,hS',hacc⟩:=hr;exact fin' h' tk acc c' hk hS' hacc⟩
 ·exact absurd h.1 (by simp)
theorem qes(r:Addr)(a b c:Int)(t u v:Tok)(n:Nat)(hsmall:Builtin.Range.small a b c=true)(hn:Builtin.Range.rangeSize a b c=n)(hlen:n≤2^24) :
  PySem.Meets (Builtin.«tuple.__new__» ⟨[.type "tuple",.ref r],[]⟩)
   (fun A R s=>A.handled=none∧IsRange s.heap r a b c t u v∧∀(h':Heap) (tk:Nat) (acc:Array Value),(∀b o',s.heap.get? b=some o'→h'.get? b=some o')→ItemsOf (fun i v=>∃t,v=.int (a+i * c) t) acc n→R (.ok (.ret (.ref h'.objs.size))) {s with heap:=h'.push {cls:=.type "tuple",data:=.seq acc},toks:=tk}):=
 .of_wp fun prog w A R s h=>by
  obtain⟨hh,ht,h⟩:=h;have hsub:=sub_tuple_self;have hinit:=init_tuple_lookup;have hmh:=madeHere_tuple;have hT:s.TypeIs (.ref r) "range":=⟨_,ht,rfl⟩
  have hh1:A.in1.handled=none:=hh
  wp_walk using wpAny_typeOf hT,qgM (hsmall:=hsmall) (hn:=hn) (hlen:=hlen) hh1 ht
  intro h' tk acc hk hacc;show wpAny _ _ (Builtin.Tuple.tupleExact acc.toList.toArray>>=fun v=>ret v) _ _ _;unfold Builtin.Tuple.tupleExact;refine wpAny_bind (wpAny_newObj_type ?_ (show acc.toList.toArray.size≤sizeLine by simp only [Array.toArray_toList];rw [hacc.1,sizeLine_eq];lia));refine wpAny_pure ⟨_,rfl,?_⟩;have e:acc.toList.toArray=acc:=by simp
  rw [e];exact h h' tk acc hk hacc
theorem qcm{r:Addr}{a b c:Int}{t u v:Tok}{n:Nat}{Q:Value→Shared→Prop}(hh:A.handled=none)(hr:IsRange s.heap r a b c t u v)(hsmall:Builtin.Range.small a b c=true)(hn:Builtin.Range.rangeSize a b c=n)(hlen:n≤2^24)
  (h:∀(h':Heap) (tk:Nat) (acc:Array Value),(∀b o',s.heap.get? b=some o'→h'.get? b=some o')→ItemsOf (fun i v=>∃t,v=.int (a+i * c) t) acc n→Q (.ref h'.objs.size) {s with heap:=h'.push {cls:=.type "tuple",data:=.seq acc},toks:=tk}) :
  wpAny (model prog w) A (call (.type "tuple") [.ref r]) Q E s:=
 callType_new PySem.F.called_tuple (by decide) (PySem.F.typeCall_tuple_1 _) (PySem.F.newCall_tuple_1 _) (fun obj=>PySem.F.args_object_init_2 obj _) PySem.F.entry_tuple_new
  (qes r a b c t u v n hsmall hn hlen) ⟨hh,hr,fun h' tk acc hk hacc=>⟨⟨_,Heap.get?_push_size _ rfl,rfl⟩,h h' tk acc hk hacc⟩⟩
end
theorem qeN:∀{xs:List V}{us:List Value},xs.length=us.length→(∀(i:Nat) x u,xs[i]? = some x→us[i]? = some u→L2.RelV x u)→Vals xs us
 | [],[],_,_=>.nil
 |x::xs,u::us,h,k=>.cons (k 0 x u rfl rfl) (qeN (by simpa using h) fun i y v h1 h2=>k (i+1) y v (by simpa using h1) (by simpa using h2))
 | [],_::_,h,_=>by simp at h
 |_::_,[],h,_=>by simp at h
noncomputable def qcx(lo:Int)(n:Nat):List V:=(List.range n).map fun(i:Nat)=>.int (lo+(i:Int))
theorem qfi{lo:Int}{n:Nat}{acc:Array Value}(h:ItemsOf (fun i v=>∃t,v=.int (lo+i * 1) t) acc n):Vals (qcx lo n) acc.toList:=by
 refine qeN (by simp [qcx,h.1]) fun i x u hx hu=>?_
 unfold qcx at hx;rw [List.getElem?_map]at hx;cases q:(List.range n)[i]? with
 |none=>rw [q]at hx;cases hx
 |some j=>
  rw [q]at hx;cases hx;obtain⟨h1,h2⟩:=List.getElem?_eq_some_iff.mp q;simp at h2;subst h2;obtain⟨t,ht⟩:=h.2 i u (by simpa using hu);rw [ht];exact⟨t,by rw [Int.mul_one]⟩
theorem qdo{g:Gc}{H:Hp}{lo:Int}{n:Nat}:qh g H (zD lo n) (qcx lo n):=by
 unfold zD qcx;generalize List.range n=l
 induction l with
 |nil=>exact .nil
 |cons i l ih=>exact .cons (.int _) ih
section
variable{X:Cx}
theorem qnx:qz X (.type "range") (fun vs H Q=>∃lo hi,(vs=[.int hi]∧lo=0∨vs=[.int lo,.int hi])∧∀p,H p=none→Q (.ref p) (upd H p (.rng lo hi))):=by
 intro pins s σ H xs us Q I r h;obtain⟨lo,hi,h|h,q⟩:=h
 ·obtain⟨rfl,rfl⟩:=h;obtain⟨u,rfl,t,rfl⟩:=r.one;exact call_range_1 ⟨.ref _,_,I.laid (o:=.rng 0 hi) (fun b o e=>Heap.get?_push_of_some _ e) (Nat.le_refl _) ⟨_,_,_,Heap.get?_push_size _ rfl⟩,rfl,q _ I.fresh⟩
 ·subst h;obtain⟨u,v,rfl,⟨t,rfl⟩,⟨t',rfl⟩⟩:=r.two;exact call_range_2 ⟨.ref _,_,I.laid (o:=.rng lo hi) (fun b o e=>Heap.get?_push_of_some _ e) (Nat.le_refl _) ⟨_,_,_,Heap.get?_push_size _ rfl⟩,rfl,q _ I.fresh⟩
theorem qnX{lo hi:Int}:Builtin.Range.rangeSize lo hi 1=((hi-lo).toNat:Nat):=by
 rw [rangeSize_one];split<;>lia
theorem qlC(hc:X.calm=true):qz X (.type "list") (fun vs H Q=>∃p lo hi,vs=[.ref p]∧H p=some (.rng lo hi)∧qe lo=true∧qe hi=true∧∀q,H q=none→Q (.ref q) (upd H q (.lst (qcx lo (hi-lo).toNat)))):=by
 intro pins s σ H xs us Q I r h;obtain⟨p,lo,hi,rfl,hp,z1,z2,q⟩:=h;obtain⟨u,rfl,ru⟩:=r.one;cases ru;obtain⟨t,u,v,e⟩:=I.hok p _ hp;obtain⟨a1,a2⟩:=zC z1;obtain⟨b1,b2⟩:=zC z2;refine call_list_range (I.ok.hd hc) e (small_one (by lia) (by lia) (by lia) (by lia)) qnX (by lia) fun h' tk acc c' hk hS hacc=>?_
 refine⟨.ref _,_,I.laid (h':=h') (t':=tk) (o:=.lst (qcx lo (hi-lo).toNat)) hk (Nat.le_refl _) ⟨by simp [qcx,sizeLine_eq];lia,acc.toList,c',qfi hacc,by simpa using hS⟩,rfl,q _ I.fresh⟩
theorem qmh(hc:X.calm=true):qz X (.type "tuple") (fun vs H Q=>∃p lo hi,vs=[.ref p]∧H p=some (.rng lo hi)∧qe lo=true∧qe hi=true∧∀q,H q=none→Q (.ref q) (upd H q (.tup (qcx lo (hi-lo).toNat)))):=by
 intro pins s σ H xs us Q I r h;obtain⟨p,lo,hi,rfl,hp,z1,z2,q⟩:=h;obtain⟨u,rfl,ru⟩:=r.one;cases ru;obtain⟨t,u,v,e⟩:=I.hok p _ hp;obtain⟨a1,a2⟩:=zC z1;obtain⟨b1,b2⟩:=zC z2;refine qcm (I.ok.hd hc) e (small_one (by lia) (by lia) (by lia) (by lia)) qnX (by lia) fun h' tk acc hk hacc=>?_
 have I1:Inv X pins σ H {s with heap:=h',toks:=tk}:=I.kept hk;refine⟨.ref _,_,I1.laid (t':=tk) (o:=.tup (qcx lo (hi-lo).toNat)) (fun b o e=>Heap.get?_push_of_some _ e) (Nat.le_refl _) ⟨by simp [qcx,sizeLine_eq];lia,acc.toList,qfi hacc,⟨_,Heap.get?_push_size _ rfl,rfl,0,by simp⟩⟩,rfl,q _ I1.fresh⟩
end
section
variable{w:W}{g:Gc}{c:Cc}{E:XK}{X:Cx}{a b:Expr}{ia ib:EV.E}{pos p2 p3 pos3:Pos}
theorem qqa(O:XO w g c E X){x:Str}{e:Expr}{es:List Expr}{t:TA}(h:glob c x=some .rng)(ha:PA X (e::es) t)(hs:∀z∈e::es,isStar z=false) :
  PE X (.Call (.Name x p3) (e::es) [] pos3) (tCB (fun vs H Q=>∃lo hi,(vs=[.int hi]∧lo=0∨vs=[.int lo,.int hi])∧∀p,H p=none→Q (.ref p) (upd H p (.rng lo hi))) t):=by
 obtain⟨h1,rfl⟩:=O.gm h;exact qaK qnx (O.gl h) h1 (by decide +kernel) ha (qy h).2.2.2 (qy h).2.2.1 (qg (hs e List.mem_cons_self)) (qeV fun z hz=>hs z (List.mem_cons_of_mem _ hz))
theorem qof(O:XO w g c E X)(hc:X.calm=true){x y:Str}{n:String}{bb:Option B1}{e:Expr}{es:List Expr}{it:It}{t:TA}(hT:glob c x=some (.ty n bb))(h:glob c y=some .rng)(ha:PA X (e::es) t)(hs:∀z∈e::es,isStar z=false)
  (hn:n = "tuple"∨n = "list")
  (k:∀σ H (Q:List V→Hp→Prop) τ S (P:List D→Prop),SE g c τ σ H S→tR g E H (evI w it τ) P→(∀lo hi vs H',qf H H'→(vs=[.int hi]∧lo=0∨vs=[.int lo,.int hi])→qe lo=true→qe hi=true→P (zD lo (hi-lo).toNat)→Q vs H')→t σ H Q) :
  PE X (.Call (.Name x p2) [.Call (.Name y p3) (e::es) [] pos3] [] pos) (tE w g c E (if n = "tuple" then .rtup it else .rlst it)):=by
 obtain⟨h1,h2,_,_⟩:=O.gm hT;have hr:=qqa (p3:=p3) (pos3:=pos3) O h ha hs;rcases hn with rfl|rfl
 ·refine PE.imp (qaK (qmh hc) (O.gl hT) h1 h2 (zj hr zP) (qy hT).2.2.2 (qy hT).2.2.1) fun σ H Q ⟨τ,S,se,q⟩=>?_
  rw [if_pos rfl]at q;simp only [qX,zc,zb,zh,zf,qY,ze,zi,zg,qK,qB,qJ,qD,qF,qW,qI,qC,qw,qL,qH,qP,qr,qA,qR,qE,qx,qO,qN,qS,qM,qQ,qU,qV,qG,qT]at q;refine k σ H _ τ S _ se (tR.bnd q) fun lo hi vs H' s hv z1 z2 hP=>⟨lo,hi,hv,fun p hp=>⟨p,lo,hi,rfl,zq,z1,z2,fun r hr=>?_⟩⟩
  have s1:=qu (o:=.rng lo hi) hp;exact hP _ _ (qck.of ((s.trans s1).trans (qu hr)) (qaM (se.sub.same (s.trans s1)) hr qdo) rfl)
 ·refine PE.imp (qaK (qlC hc) (O.gl hT) h1 h2 (zj hr zP) (qy hT).2.2.2 (qy hT).2.2.1) fun σ H Q ⟨τ,S,se,q⟩=>?_
  rw [if_neg (by decide)]at q;simp only [qX,zc,zb,zh,zf,qY,ze,zi,zg,qK,qB,qJ,qD,qF,qW,qI,qC,qw,qL,qH,qP,qr,qA,qR,qE,qx,qO,qN,qS,qM,qQ,qU,qV,qG,qT]at q;refine k σ H _ τ S _ se (tR.bnd q) fun lo hi vs H' s hv z1 z2 hP=>⟨lo,hi,hv,fun p hp=>⟨p,lo,hi,rfl,zq,z1,z2,fun r hr=>?_⟩⟩
  have s1:=qu (o:=.rng lo hi) hp;exact hP _ _ (qck.new ((s.trans s1).trans (qu hr)) (qas (se.sub.same (s.trans s1)) hr qdo) (qbr (s.trans s1) hr qdo))
noncomputable def rgS(p:Addr)(lo hi st:Int):Heap→Prop:=fun h=>∃t u v,h.get? p=some {cls:=.type "range",data:=.fields #[.int lo t,.int hi u,.int st v]}
theorem qkZ{X:Cx}:qz X (.type "range") (fun vs H Q=>∃lo hi st,vs=[.int lo,.int hi,.int st]∧(0<st∧st≤1000000)∧∀p,H p=none→Q (.ref p) (upd H p (.ext (rgS p lo hi st)))):=by
 intro pins s σ H xs us Q I r h;obtain⟨lo,hi,st,rfl,hst,q⟩:=h;obtain⟨u1,u2,u3,rfl,⟨t1,rfl⟩,⟨t2,rfl⟩,⟨t3,rfl⟩⟩:∃u1 u2 u3,us=[u1,u2,u3]∧RelV (.int lo) u1∧RelV (.int hi) u2∧RelV (.int st) u3:=by
  cases r with
  |cons p q=>
   cases q with
   |cons p' q'=>
    cases q' with
    |cons p'' q''=>
     cases q'';exact⟨_,_,_,rfl,p,p',p''⟩
 refine call_range_3 (by lia) ⟨.ref _,_,I.laid (o:=.ext (rgS _ lo hi st)) (fun b o e=>Heap.get?_push_of_some _ e) (Nat.le_refl _) ⟨⟨_,_,_,Heap.get?_push_size _ rfl⟩,⟨_,Heap.get?_push_size _ rfl⟩,fun h1 h2 ⟨a1,a2,a3,e⟩ k=>⟨a1,a2,a3,k _ e⟩⟩,rfl,q _ I.fresh⟩ (.inl (PyProof.noPylong_small (by lia)))
noncomputable def qcI(lo st:Int)(n:Nat):List V:=(List.range n).map fun(i:Nat)=>.int (lo+(i:Int) * st)
theorem qig{lo st:Int}{n:Nat}{acc:Array Value}(h:ItemsOf (fun i v=>∃t,v=.int (lo+i * st) t) acc n):Vals (qcI lo st n) acc.toList:=by
 refine qeN (by simp [qcI,h.1]) fun i x u hx hu=>?_
 unfold qcI at hx;rw [List.getElem?_map]at hx;cases q:(List.range n)[i]? with
 |none=>rw [q]at hx;cases hx
 |some j=>
  rw [q]at hx;cases hx;obtain⟨h1,h2⟩:=List.getElem?_eq_some_iff.mp q;simp at h2;subst h2;obtain⟨t,ht⟩:=h.2 i u (by simpa using hu);rw [ht];exact⟨t,rfl⟩
theorem qip{g:Gc}{H:Hp}{lo st:Int}{n:Nat}:qh g H (qcV lo st n) (qcI lo st n):=by
 unfold qcV qcI;generalize List.range n=l
 induction l with
 |nil=>exact .nil
 |cons i l ih=>exact .cons (.int _) ih
theorem qkz{X:Cx}(hc:X.calm=true):qz X (.type "tuple") (fun vs H Q=>∃p lo hi st,vs=[.ref p]∧H p=some (.ext (rgS p lo hi st))∧qe lo=true∧qe hi=true∧0<st∧st≤1000000∧∀q,H q=none→Q (.ref q) (upd H q (.tup (qcI lo st (qaS lo hi st))))):=by
 intro pins s σ H xs us Q I r h;obtain⟨p,lo,hi,st,rfl,hp,z1,z2,z3,z4,q⟩:=h;obtain⟨u,rfl,ru⟩:=r.one;cases ru;obtain⟨⟨t,u,v,e⟩,_⟩:=I.hok p _ hp;obtain⟨a1,a2⟩:=zC z1;obtain⟨b1,b2⟩:=zC z2;have hle:=qiH (lo:=lo) (hi:=hi) z3 a1 b2;refine qcm (I.ok.hd hc) e (qhg z3 z4 a1 a2 b1 b2) (qfT z3) (by lia) fun h' tk acc hk hacc=>?_
 have I1:Inv X pins σ H {s with heap:=h',toks:=tk}:=I.kept hk;refine⟨.ref _,_,I1.laid (t':=tk) (o:=.tup (qcI lo st (qaS lo hi st))) (fun b o e=>Heap.get?_push_of_some _ e) (Nat.le_refl _) ⟨by simp [qcI,sizeLine_eq];lia,acc.toList,qig hacc,⟨_,Heap.get?_push_size _ rfl,rfl,0,by simp⟩⟩,rfl,q _ I1.fresh⟩
theorem qqP(O:XO w g c E X)(hc:X.calm=true){x y:Str}{bb:Option B1}{d:Expr}{id:EV.E}(hT:glob c x=some (.ty "tuple" bb))(h:glob c y=some .rng)(ha:PE X a (tE w g c E ia))(hb:PE X b (tE w g c E ib))(hd:PE X d (tE w g c E id))(hs:isStar a=false)(hs':isStar b=false)(hs'':isStar d=false) :
  PE X (.Call (.Name x p2) [.Call (.Name y p3) [a,b,d] [] pos3] [] pos) (tE w g c E (.rtup (.rng3 ia ib id))):=by
 obtain⟨h1,h2,_,_⟩:=O.gm hT;obtain⟨r1,rfl⟩:=O.gm h;have hr:=qaK (p:=p3) (pos:=pos3) qkZ (O.gl h) r1 (by decide +kernel) (zj ha (zj hb (zj hd zP (qg hs'')) (qg hs')) (qg hs)) (qy h).2.2.2 (qy h).2.2.1 (qg hs) (qeV fun z hz=>by simp at hz;rcases hz with rfl|rfl;exact hs';exact hs'');refine PE.imp (qaK (qkz hc) (O.gl hT) h1 h2 (zj hr zP) (qy hT).2.2.2 (qy hT).2.2.1) fun σ H Q ⟨τ,S,se,q⟩=>?_
 simp only [qX,zc,zb,zh,zf,qY,ze,zi,zg,qK,qB,qJ,qD,qF,qW,qI,qC,qw,qL,qH,qP,qr,qA,qR,qE,qx,qO,qN,qS,qM,qQ,qU,qV,qG,qT]at q;have q:=tR.bnd q;simp only [evI]at q;refine za se q fun da va H1 e1 p1 k1=>za (se.up p1.same) k1 fun db vb H2 e2 p2 k2=>za ((se.up p1.same).up p2.same) k2 fun dd vd H3 e3 p3 k3=>?_
 cases da with
 |int i=>
  cases db with
  |int j=>
   cases dd with
   |int l=>
    simp only at k3;cases q:qe i&&qe j&&(decide (0<l)&&qe l)with
    |true=>
     rw [q,if_pos rfl]at k3;simp only [Bool.and_eq_true,decide_eq_true_eq]at q;have s:=(p1.same.trans p2.same).trans p3.same;refine⟨i,j,l,by rw [p1.rb.int,p2.rb.int,p3.rb.int],⟨q.2.1,(zC q.2.2).2⟩,fun p hp=>⟨p,i,j,l,rfl,zq,q.1.1,q.1.2,q.2.1,(zC q.2.2).2,fun r hr=>?_⟩⟩;have s1:=qu (o:=.ext (rgS p i j l)) hp;exact k3 _ _ (qck.of ((s.trans s1).trans (qu hr)) (qaM (se.sub.same (s.trans s1)) hr qip) rfl)
    |false=>rw [q]at k3;exact k3.elim
   |_=>exact k3.elim
  |_=>exact k3.elim
 |_=>exact k3.elim
theorem qsv(ha:PE X a (tE w g c E ia))(hs:isStar a=false):PA X [a] (qdj (tE w g c E ia) qfX):=zj ha zP (qg hs)
theorem qnm:∀σ H (Q:List V→Hp→Prop) τ S (P:List D→Prop),SE g c τ σ H S→tR g E H (evI w (.rng ia) τ) P→(∀lo hi vs H',qf H H'→(vs=[.int hi]∧lo=0∨vs=[.int lo,.int hi])→qe lo=true→qe hi=true→P (zD lo (hi-lo).toNat)→Q vs H')→qdj (tE w g c E ia) qfX σ H Q:=by
 intro σ H Q τ S P se q k;simp only [evI]at q;refine za se q fun da va H1 e1 p1 k1=>?_
 cases da with
 |int j=>
  simp only at k1;cases z:qe j with
  |true=>rw [z,if_pos rfl]at k1;exact k 0 j _ H1 p1.same (.inl ⟨by rw [p1.rb.int],rfl⟩) (by decide) z (by rw [Int.sub_zero];exact k1)
  |false=>rw [z]at k1;exact k1.elim
 |_=>exact k1.elim
theorem qmZ:∀σ H (Q:List V→Hp→Prop) τ S (P:List D→Prop),SE g c τ σ H S→tR g E H (evI w (.rng2 ia ib) τ) P→(∀lo hi vs H',qf H H'→(vs=[.int hi]∧lo=0∨vs=[.int lo,.int hi])→qe lo=true→qe hi=true→P (zD lo (hi-lo).toNat)→Q vs H')→qdj (tE w g c E ia) (qdj (tE w g c E ib) qfX) σ H Q:=by
 intro σ H Q τ S P se q k;simp only [evI]at q;refine za se q fun da va H1 e1 p1 k1=>za (se.up p1.same) k1 fun db vb H2 e2 p2 k2=>?_
 cases da with
 |int i=>
  cases db with
  |int j=>
   simp only at k2;cases z:qe i&&qe j with
   |true=>
    rw [z,if_pos rfl]at k2;simp only [Bool.and_eq_true]at z;exact k i j _ H2 (p1.same.trans p2.same) (.inr (by rw [p1.rb.int,p2.rb.int])) z.1 z.2 k2
   |false=>rw [z]at k2;exact k2.elim
  |_=>exact k2.elim
 |_=>exact k2.elim
end
structure Snd(w:W)(g:Gc)(n:Nat):Prop where
 e:∀{c:Cc}{E:XK}{X:Cx} (O:XO w g c E X) {x:Expr}{ir:EV.E},cE n c x=some ir→PE X x (tE w g c E ir)
 bo:∀{c:Cc}{E:XK}{X:Cx} (O:XO w g c E X) {op:PySem.BoolOp}{vs:List Expr}{pos:Pos}{ir:EV.E},cBo n c op vs=some ir→PE X (.BoolOp op vs pos) (tE w g c E ir)∧esc ir=true
 o:∀{c:Cc}{E:XK}{X:Cx} (O:XO w g c E X) {x:Option Expr}{ir:OE},cO n c x=some ir→PO X x (tOe w g c E ir)
 es:∀{c:Cc}{E:XK}{X:Cx} (O:XO w g c E X) {x:List Expr}{ir:Es},cEs n c x=some ir→PA X x (tA w g c E ir)
 i:∀{c:Cc}{E:XK}{X:Cx} (O:XO w g c E X) {tg x:Expr}{ir:It},cI n c x=some ir→qcO ir tg=true→PI X tg x (tIt w g c E ir)
 t:∀{c:Cc}{E:XK}{X:Cx} (O:XO w g c E X) {x:Expr}{ir:T},cT n c x=some ir→PT X x (tT w g c E ir)
 ts:∀{c:Cc}{E:XK}{X:Cx} (O:XO w g c E X) {op:PySem.BoolOp}{vs:List Expr}{pos:Pos}{ir:T},cTs n c op vs=some ir→PW X (.BoolOp op vs pos) (tT w g c E ir)
 ifs:∀{c:Cc}{E:XK}{X:Cx} (O:XO w g c E X) {x:List Expr}{ir:T},qcM n c x=some ir→PTs X x (tT w g c E ir)
section
variable{w:W}{g:Gc}{n:Nat}
theorem Snd.ifs_succ(ih:Snd w g n){c:Cc}{E:XK}{X:Cx}(O:XO w g c E X){x:List Expr}{ir:T}(h:qcM (n+1) c x=some ir):PTs X x (tT w g c E ir):=by
 match x with
 | []=>
  simp only [qcM,Option.some.injEq]at h;subst h;intro pins s σ H Q I ⟨τ,S,se,q⟩;exact qiJ pins s σ H Q I (q H (qf.refl _))
 | [t]=>simp only [qcM]at h;exact qpA (ih.t O h)
 |_::_::_=>simp [qcM]at h
theorem Snd.bo_succ(ih:Snd w g n){c:Cc}{E:XK}{X:Cx}(O:XO w g c E X){op:PySem.BoolOp}{vs:List Expr}{pos:Pos}{ir:EV.E}(h:cBo (n+1) c op vs=some ir):PE X (.BoolOp op vs pos) (tE w g c E ir)∧esc ir=true:=by
 match vs with
 | []=>simp [cBo]at h
 | [a]=>
  simp only [cBo,Option.bind_eq_bind,Option.bind_eq_some_iff]at h;obtain⟨ia,h1,h⟩:=h;split at h
  ·rename_i he
   cases h;exact⟨qqw (ih.e O h1),he⟩
  ·cases h
 |a::b::r=>
  simp only [cBo,Option.bind_eq_bind,Option.bind_eq_some_iff]at h;obtain⟨ia,h1,ir',h2,h⟩:=h;obtain⟨r1,r2⟩:=ih.bo O (pos:=pos) h2;cases op with
  |And=>cases h;exact⟨qtC (ih.e O h1) r1 r2,rfl⟩
  |Or=>cases h;exact⟨qtQ (ih.e O h1) r1 r2,rfl⟩
theorem Snd.o_succ(ih:Snd w g n){c:Cc}{E:XK}{X:Cx}(O:XO w g c E X){x:Option Expr}{ir:OE}(h:cO (n+1) c x=some ir):PO X x (tOe w g c E ir):=by
 cases x with
 |none=>simp only [cO,Option.some.injEq]at h;subst h;exact qot
 |some e=>
  simp only [cO,Option.map_eq_some_iff]at h;obtain⟨ie,h1,rfl⟩:=h;exact qpS (ih.e O h1)
theorem Snd.es_succ(ih:Snd w g n){c:Cc}{E:XK}{X:Cx}(O:XO w g c E X){x:List Expr}{ir:Es}(h:cEs (n+1) c x=some ir):PA X x (tA w g c E ir):=by
 match x with
 | []=>simp only [cEs,Option.some.injEq]at h;subst h;exact qrP
 |e::r=>
  have hs:=qaZ h e List.mem_cons_self;simp only [cEs,hs,Bool.false_eq_true,if_false,Option.bind_eq_bind,Option.bind_eq_some_iff]at h;obtain⟨ie,h1,ir',h2,h⟩:=h;cases h;exact qoz (ih.e O h1) (ih.es O h2) hs
theorem Snd.ts_succ(ih:Snd w g n){c:Cc}{E:XK}{X:Cx}(O:XO w g c E X){op:PySem.BoolOp}{vs:List Expr}{pos:Pos}{ir:T}(h:cTs (n+1) c op vs=some ir):PW X (.BoolOp op vs pos) (tT w g c E ir):=by
 match vs with
 | []=>simp [cTs]at h
 | [a]=>
  simp only [cTs]at h;cases op with
  |And=>exact qoX (ih.t O h)
  |Or=>exact qsh (ih.t O h)
 |a::b::r=>
  simp only [cTs,Option.bind_eq_bind,Option.bind_eq_some_iff]at h;obtain⟨ia,h1,ir',h2,h⟩:=h;cases op with
  |And=>cases h;exact qra (ih.t O h1) (ih.ts O h2)
  |Or=>cases h;exact qtM (ih.t O h1) (ih.ts O h2)
theorem Snd.t_succ(ih:Snd w g n){c:Cc}{E:XK}{X:Cx}(O:XO w g c E X){x:Expr}{ir:T}(h:cT (n+1) c x=some ir):PT X x (tT w g c E ir):=by
 unfold cT at h;split at h
 ·simp only [Option.map_eq_some_iff]at h;obtain⟨ia,h1,rfl⟩:=h;exact qsg (ih.t O h1)
 ·exact(ih.ts O h).pt
 ·cases h
 ·split at h
  ·simp only [Option.bind_eq_bind,Option.bind_eq_some_iff]at h;obtain⟨ia,h1,ib,h2,h⟩:=h;split at h
   ·rename_i hs;cases h;exact qrQ O (ih.e O h1) (ih.e O h2) hs
   ·cases h
  ·simp only [Option.bind_eq_bind,Option.bind_eq_some_iff]at h;obtain⟨ia,h1,ib,h2,id',h3,h⟩:=h;split at h
   ·rename_i hs
    simp only [Bool.and_eq_true]at hs;cases h;exact qpg O (ih.e O h1) (ih.e O h2) (ih.e O h3) hs.2
   ·cases h
  ·simp only [Option.bind_eq_bind,Option.bind_eq_some_iff]at h;obtain⟨ia,h1,ib,h2,id',h3,if',h4,h⟩:=h;split at h
   ·rename_i hs
    simp only [Bool.and_eq_true]at hs;cases h;exact qoD O (ih.e O h1) (ih.e O h2) (ih.e O h3) (ih.e O h4) hs.2
   ·cases h
  ·cases h
 ·rename_i n1 n2 n3 n4
  simp only [Option.map_eq_some_iff]at h;obtain⟨ia,h1,rfl⟩:=h;refine qqK O (ih.e O h1) fun whole=>?_
  cases x with
  |UnaryOp op a p=>cases op<;>first|rfl|exact(n1 _ _ rfl).elim
  |BoolOp op vs p=>exact(n2 _ _ _ rfl).elim
  |IfExp a b d p=>exact(n3 _ _ _ _ rfl).elim
  |Compare a ops bs p=>exact(n4 _ _ _ _ rfl).elim
  |_=>rfl
theorem Snd.i_succ(ih:Snd w g n){c:Cc}{E:XK}{X:Cx}(O:XO w g c E X){tg x:Expr}{ir:It}(h:cI (n+1) c x=some ir)(ht:qcO ir tg=true):PI X tg x (tIt w g c E ir):=by
 have sq:∀{x:Expr}{ir:It},(cE n c x).map It.seq=some ir→PI X tg x (tIt w g c E ir):=fun {x ir} h=>by
  simp only [Option.map_eq_some_iff]at h;obtain⟨ia,h1,rfl⟩:=h;exact qrD O (ih.e O h1)
 have tup:isTup tg=true→∃es k p,tg=.Tuple es k p:=fun h=>by cases tg<;>first|exact⟨_,_,_,rfl⟩|(simp [isTup]at h)
 unfold cI at h;split at h
 ·rename_i f p as q
  split at h
  ·exact sq h
  ·split at h
   ·rename_i hg
    split at h
    ·rename_i a
     split at h
     ·cases h
     ·rename_i hs
      simp only [Option.map_eq_some_iff]at h;obtain⟨ia,h1,rfl⟩:=h;exact qqI O hg (ih.e O h1) (by simpa using hs)
    ·rename_i a b
     split at h
     ·cases h
     ·rename_i hs
      have hs:isStar a=false∧isStar b=false:=by simpa using hs
      simp only [Option.bind_eq_bind,Option.bind_eq_some_iff]at h;obtain⟨ia,h1,ib,h2,h⟩:=h;cases h;exact qpe O hg (ih.e O h1) (ih.e O h2) hs.1 hs.2
    ·rename_i a b d
     split at h
     ·cases h
     ·rename_i hs
      have hs:(isStar a=false∧isStar b=false)∧isStar d=false:=by simpa [and_assoc]using hs
      simp only [Option.bind_eq_bind,Option.bind_eq_some_iff]at h;obtain⟨ia,h1,ib,h2,id,h3,h⟩:=h;cases h;exact qow O hg (ih.e O h1) (ih.e O h2) (ih.e O h3) hs.1.1 hs.1.2 hs.2
    ·cases h
   ·rename_i hg
    split at h
    ·rename_i a
     split at h
     ·cases h
     ·rename_i hs
      simp only [Option.map_eq_some_iff]at h;obtain⟨ia,h1,rfl⟩:=h;obtain⟨es,k,p',rfl⟩:=tup ht;exact qpQ O hg (ih.e O h1) (by simpa using hs)
    ·cases h
   ·rename_i hg
    split at h
    ·rename_i a b
     split at h
     ·cases h
     ·rename_i hs
      have hs:isStar a=false∧isStar b=false:=by simpa using hs
      simp only [Option.bind_eq_bind,Option.bind_eq_some_iff]at h;obtain⟨ia,h1,ib,h2,h⟩:=h;cases h;obtain⟨es,k,p',rfl⟩:=tup ht;exact qsm O hg (ih.e O h1) (ih.e O h2) hs.1 hs.2
    ·cases h
   ·exact sq h
 ·exact sq h
end
end EV
namespace ST
open PySem PySem.SetTable
noncomputable def adv(mask:Nat)(p:Probe):Probe:=
 if p.more>0 then {p with j:=p.j+1,more:=p.more-1}else
 {p with j:=(leap mask p.i p.perturb).1,more:=runEnd mask (leap mask p.i p.perturb).1-(leap mask p.i p.perturb).1,i:=(leap mask p.i p.perturb).1,perturb:=(leap mask p.i p.perturb).2}
theorem qlj(t:SetTable)(p:Probe):t.advance p=adv t.mask p:=rfl
noncomputable def RS(mask:Nat)(x:Nat×Nat):Probe:=⟨x.1,runEnd mask x.1-x.1,x.1,x.2,none⟩
noncomputable def pr(mask:Nat)(h:Int):Nat→Probe
 | 0=>RS mask (bits h%(mask+1),bits h)
 |n+1=>adv mask (pr mask h n)
noncomputable def it(mask:Nat):Nat→Probe→Probe
 | 0,p=>p
 |d+1,p=>it mask d (adv mask p)
theorem qfr(mask:Nat)(h:Int):∀d n,pr mask h (n+d)=it mask d (pr mask h n)
 | 0,n=>rfl
 |d+1,n=>by rw [it,show n+(d+1)=n+1+d by lia,qfr mask h d (n+1)];rfl
theorem qia(mask:Nat):∀d e p,it mask (d+e) p=it mask e (it mask d p)
 | 0,e,p=>by rw [Nat.zero_add];rfl
 |d+1,e,p=>by rw [show d+1+e=d+e+1 by lia,it,it,qia mask d e]
noncomputable def lp(mask:Nat):Nat→Nat×Nat→Nat×Nat
 | 0,x=>x
 |k+1,x=>lp mask k (leap mask x.1 x.2)
theorem qkY(mask:Nat):∀d e x,lp mask (d+e) x=lp mask e (lp mask d x)
 | 0,e,x=>by rw [Nat.zero_add];rfl
 |d+1,e,x=>by rw [show d+1+e=d+e+1 by lia,lp,lp,qkY mask d e]
structure Ok(mask:Nat)(p:Probe):Prop where
 more:p.more≤9
 le:p.j+p.more≤mask
 pt:p.perturb<2^64
 dm:p.dummy=none
theorem qeb{mask i:Nat}(h:i≤mask):runEnd mask i-i≤9∧i+(runEnd mask i-i)≤mask∧i≤runEnd mask i:=by
 unfold runEnd;split<;>lia
theorem qtb{mask:Nat}{x:Nat×Nat}(h:x.1≤mask)(hp:x.2<2^64):Ok mask (RS mask x):=⟨(qeb h).1,(qeb h).2.1,hp,rfl⟩
theorem qcb(mask i p:Nat):(leap mask i p).1≤mask:=Nat.le_of_lt_succ (Nat.mod_lt _ (Nat.succ_pos _))
theorem qrk{mask:Nat}{p:Probe}(h:Ok mask p):Ok mask (adv mask p):=by
 have a:=h.more;have b:=h.le;have c:=h.pt;have d:=h.dm;unfold adv;split
 ·exact⟨by show p.more-1≤9;lia,by show p.j+1+(p.more-1)≤mask;lia,c,d⟩
 ·have:=qeb (qcb mask p.i p.perturb);exact⟨this.1,this.2.1,by show p.perturb/32<_;lia,d⟩
theorem qeg(mask:Nat)(h:Int):∀n,Ok mask (pr mask h n)
 | 0=>qtb (Nat.le_of_lt_succ (Nat.mod_lt _ (Nat.succ_pos _))) (by
   show bits h<2^64;unfold bits;have:=Int.emod_lt_of_pos h (show (0:Int)<2^64 by decide);have:=Int.emod_nonneg h (show (2^64:Int)≠0 by decide);lia)
 |n+1=>qrk (qeg mask h n)
theorem qjp(mask:Nat)(h:Int)(n:Nat):(pr mask h n).j≤mask:=by have:=(qeg mask h n).le;lia
theorem qfy(mask:Nat):∀(r:Nat) (p:Probe),p.more=r→p.dummy=none→it mask (r+1) p=RS mask (leap mask p.i p.perturb)∧∀c,c≤r→(it mask c p).j=p.j+c
 | 0,p,h,hd=>by
  refine⟨?_,fun c hc=>by rw [Nat.le_zero.mp hc];rfl⟩;rw [it,it,adv,if_neg (by lia)];obtain⟨j,m,i,q,d⟩:=p;cases hd
  rfl
 |r+1,p,h,hd=>by
  have e:adv mask p={p with j:=p.j+1,more:=p.more-1}:=by rw [adv,if_pos (by lia)]
  have g:=qfy mask r (adv mask p) (by rw [e];show p.more-1=r;lia) (by rw [e];exact hd);refine⟨?_,fun c hc=>?_⟩
  ·rw [it,g.1,e]
  ·cases c with
   |zero=>rfl
   |succ c=>rw [it,g.2 c (by lia),e];show p.j+1+c=_;lia
theorem qjc(mask:Nat):∀(k:Nat) (x:Nat×Nat),x.1≤mask→∃d,d≤10 * k∧it mask d (RS mask x)=RS mask (lp mask k x)
 | 0,x,_=>⟨0,by lia,rfl⟩
 |k+1,x,hx=>by
  obtain⟨d,h1,h2⟩:=qjc mask k (leap mask x.1 x.2) (qcb ..);have r:=(qfy mask _ (RS mask x) rfl rfl).1;have:=(qeb hx).1;refine⟨(RS mask x).more+1+d,by show runEnd mask x.1-x.1+1+d≤_;lia,?_⟩;rw [qia,r];exact h2
theorem qoc(mask:Nat):∀(k:Nat) (x:Nat×Nat),(lp mask k x).2=x.2/32^k
 | 0,x=>by simp [lp]
 |k+1,x=>by rw [lp,qoc mask k];show x.2/32/32^k=_;rw [Nat.div_div_eq_div_mul,Nat.pow_succ,Nat.mul_comm]
theorem qoh(mask:Nat):∀(k:Nat) (x:Nat×Nat),x.1≤mask→(lp mask k x).1≤mask
 | 0,_,h=>h
 |k+1,_,_=>qoh mask k _ (qcb ..)
noncomputable def om(mask:Nat):Nat→Nat→Nat
 | 0,_=>0
 |n+1,i=>2^i |||om mask n ((i * 5+1)%(mask+1))
theorem qje(mask:Nat){j:Nat}:∀(n i:Nat),(om mask n i).testBit j=true→∃k,k<n∧lp mask k (i,0)=(j,0)
 | 0,i,h=>by simp [om]at h
 |n+1,i,h=>by
  rw [om,Nat.testBit_or,Nat.testBit_two_pow,Bool.or_eq_true,decide_eq_true_eq]at h;rcases h with rfl|h
  ·exact⟨0,by lia,rfl⟩
  ·obtain⟨k,h1,h2⟩:=qje mask n _ h;refine⟨k+1,by lia,?_⟩;rw [lp,←h2];show lp mask k ((i * 5+1+0/32)%(mask+1),0/32)=_;rw [Nat.zero_div,Nat.add_zero]
noncomputable def Mk(mask:Nat):Prop:=mask=7∨mask=31∨mask=127
theorem qsV{mask:Nat}(h:Mk mask):(List.range (mask+1)).all (fun i=>om mask (mask+1) i==2^(mask+1)-1)=true:=by
 rcases h with rfl|rfl|rfl<;>decide +kernel
theorem qor{mask:Nat}(hM:Mk mask){x:Nat×Nat}(hp:x.2<2^64)(hx:x.1≤mask){j:Nat}(hj:j≤mask):∃k,k≤mask+13∧(lp mask k x).1=j:=by
 have a:=List.all_eq_true.mp (qsV hM) (lp mask 13 x).1 (List.mem_range.mpr (Nat.lt_succ_of_le (qoh mask 13 x hx)));have b:(om mask (mask+1) (lp mask 13 x).1).testBit j=true:=by
  rw [eq_of_beq a,Nat.testBit_two_pow_sub_one,decide_eq_true_eq];lia
 obtain⟨k,h1,h2⟩:=qje mask _ _ b;have c:lp mask 13 x=((lp mask 13 x).1,0):=by
  refine Prod.ext rfl ?_;rw [qoc];exact Nat.div_eq_of_lt (Nat.lt_of_lt_of_le hp (by decide))
 exact⟨13+k,by lia,by rw [qkY,c,h2]⟩
theorem cover{mask:Nat}(hM:Mk mask)(h:Int)(n:Nat){j:Nat}(hj:j≤mask):∃m,n≤m∧m<n+10 * turns mask∧(pr mask h m).j=j:=by
 have o:=qeg mask h n;obtain⟨k,h1,h2⟩:=qor hM (x:=leap mask (pr mask h n).i (pr mask h n).perturb) (by have:=o.pt;show _/32<_;lia) (qcb ..) hj;obtain⟨d,h3,h4⟩:=qjc mask k (leap mask (pr mask h n).i (pr mask h n).perturb) (qcb ..);have r:=(qfy mask _ (pr mask h n) rfl o.dm).1;have:=o.more;refine⟨n+((pr mask h n).more+1+d),by lia,by unfold turns;lia,?_⟩;rw [qfr,qia,r,h4];exact h2
noncomputable def Ri(xs:Array Nat):Prop:=∀i k x y:Nat,i<k→xs[i]? = some x→xs[k]? = some y→x<y
theorem Ri.of{xs:Array Nat}(h:xs.toList.Pairwise (· < ·)):Ri xs:=by
 intro i k x y hik hx hy;rw [List.pairwise_iff_getElem]at h;obtain⟨a,rfl⟩:=Array.getElem?_eq_some_iff.mp hx;obtain⟨b,rfl⟩:=Array.getElem?_eq_some_iff.mp hy;exact h i k a b hik
theorem qeL{xs:Array Nat}(hr:Ri xs)(j:Nat):∀(fuel lo hi:Nat),hi-lo≤fuel→lo≤hi→hi≤xs.size→(∀i x,i<lo→xs[i]? = some x→x<j)→(∀i x,hi≤i→xs[i]? = some x→j≤x) →
  below.go xs j fuel lo hi≤xs.size∧(∀i x,xs[i]? = some x→(i<below.go xs j fuel lo hi↔x<j))
 | 0,lo,hi,h1,h2,h3,h4,h5=>by
  rw [below.go];refine⟨by lia,fun i x e=>⟨fun h=>h4 i x h e,fun h=>?_⟩⟩;refine Nat.lt_of_not_le fun g=>?_
  have:=h5 i x (by lia) e;lia
 |fuel+1,lo,hi,h1,h2,h3,h4,h5=>by
  rw [below.go];split
  ·rename_i hl
   have hm:(lo+hi)/2<xs.size:=by lia
   have e:xs[(lo+hi)/2]? = some xs[(lo+hi)/2]:=Array.getElem?_eq_getElem hm;have g:xs.getD ((lo+hi)/2) j=xs[(lo+hi)/2]:=by rw [Array.getD_eq_getD_getElem?,e];rfl
   dsimp only;rw [g];split
   ·rename_i hq
    refine qeL hr j fuel _ hi (by lia) (by lia) h3 (fun i x hi' e'=>?_) h5;rcases Nat.lt_trichotomy i ((lo+hi)/2)with q|q|q
    ·exact Nat.lt_trans (hr i _ x _ q e' e) hq
    ·subst q;rw [e]at e';cases e';exact hq
    ·lia
   ·rename_i hq
    refine qeL hr j fuel lo _ (by lia) (by lia) (by lia) h4 fun i x hi' e'=>?_
    rcases Nat.lt_trichotomy i ((lo+hi)/2)with q|q|q
    ·lia
    ·subst q;rw [e]at e';cases e';lia
    ·have:=hr _ i _ x q e e';lia
  ·refine⟨by lia,fun i x e=>⟨fun h=>h4 i x h e,fun h=>?_⟩⟩;refine Nat.lt_of_not_le fun g=>?_
   have:=h5 i x (by lia) e;lia
theorem qbY{xs:Array Nat}(hr:Ri xs)(j:Nat):below xs j≤xs.size∧(∀i x,xs[i]? = some x→(i<below xs j↔x<j)):=
 qeL hr j xs.size 0 xs.size (by lia) (by lia) (Nat.le_refl _) (fun _ _ h=>absurd h (Nat.not_lt_zero _)) fun i x h e=>by
  have:=(Array.getElem?_eq_some_iff.mp e).1;lia
theorem below_at{xs:Array Nat}(hr:Ri xs){i j:Nat}(h:xs[i]? = some j):below xs j=i:=by
 obtain⟨a,b⟩:=qbY hr j;have c:=(b i j h)
 rcases Nat.lt_trichotomy (below xs j) i with q|q|q
 ·have hs:i<xs.size:=(Array.getElem?_eq_some_iff.mp h).1;have e:xs[below xs j]? = some xs[below xs j]:=Array.getElem?_eq_getElem (by lia);have:=(b _ _ e).mpr (hr _ _ _ _ q e h);lia
 ·exact q
 ·have:=c.mp q;lia
theorem qjd{t:SetTable}(hr:Ri t.place){i j:Nat}(h:t.place[i]? = some j):t.slot j=.live i:=by
 unfold slot;dsimp only;rw [below_at hr h,h];simp
theorem qiS(j:Nat):has #[] j=false:=by simp [has]
theorem qhi{t:SetTable}(hd:t.dummies = #[]){j:Nat}(h:∀i:Nat,t.place[i]?≠some j):t.slot j=.empty:=by
 unfold slot;dsimp only;rw [if_neg (by simpa using h _),hd,qiS];simp
noncomputable def Reach(mask:Nat)(P:Nat→Prop)(h:Int)(j:Nat):Prop:=∃n,(pr mask h n).j=j∧∀m,m<n→P (pr mask h m).j
theorem Reach.mono{mask:Nat}{P Q:Nat→Prop}{h:Int}{j:Nat}(r:Reach mask P h j)(s:∀j,P j→Q j):Reach mask Q h j:=
 let ⟨n,a,b⟩:=r;⟨n,a,fun m hm=>s _ (b m hm)⟩
structure Good(t:SetTable)(hs:List Int):Prop where
 ma:Mk t.mask
 dum:t.dummies = #[]
 len:t.place.size=hs.length
 ri:t.place.toList.Pairwise (· < ·)
 le:∀j∈t.place.toList,j≤t.mask
 re:∀jh∈t.place.toList.zip hs,Reach t.mask (·∈t.place.toList) jh.2 jh.1
theorem long:∀(n:Nat) (l:List Nat),(∀j,j<n→j∈l)→n≤l.length
 | 0,_,_=>Nat.zero_le _
 |n+1,l,h=>by
  have a:=long n (l.erase n) fun j hj=>(List.mem_erase_of_ne (by lia)).mpr (h j (by lia))
  have b:=List.length_erase_of_mem (h n (by lia));have c:=List.length_pos_of_mem (h n (by lia));lia
section
variable{t:SetTable}{hs:List Int}(G:Good t hs)
include G
theorem Good.free(hf:hs.length≤t.mask)(h:Int)(n:Nat):∃m,n≤m∧m<n+10 * turns t.mask∧(pr t.mask h m).j∉t.place.toList:=by
 have:∃j,j≤t.mask∧j∉t.place.toList:=Classical.byContradiction fun g=>by
  have:=long (t.mask+1) t.place.toList fun j hj=>Classical.byContradiction fun q=>g ⟨j,by lia,q⟩
  rw [Array.length_toList,G.len]at this;lia
 obtain⟨j,h1,h2⟩:=this;obtain⟨m,a,b,c⟩:=cover G.ma h n h1;exact⟨m,a,b,by rw [c];exact h2⟩
theorem Good.go(hashAt:Nat→Int)(h:Int):∀(fuel n:Nat),(∃m,n≤m∧m<n+fuel∧(pr t.mask h m).j∉t.place.toList) →
  ∃m,n≤m∧(∀k,n≤k→k<m→∃i,t.place[i]? = some (pr t.mask h k).j∧hashAt i≠h) ∧
   (((pr t.mask h m).j∉t.place.toList∧probe.go t hashAt h fuel (pr t.mask h n)=some (.empty (pr t.mask h m).j none)) ∨
    ∃i,t.place[i]? = some (pr t.mask h m).j∧hashAt i=h∧probe.go t hashAt h fuel (pr t.mask h n)=some (.candidate (pr t.mask h m).j i (pr t.mask h (m+1))))
 | 0,n,⟨m,a,b,_⟩=>by lia
 |fuel+1,n,⟨m,a,b,c⟩=>by
  have hr:=Ri.of G.ri;by_cases hin:(pr t.mask h n).j∈t.place.toList
  ·obtain⟨i,hi⟩:=List.mem_iff_getElem?.mp hin;rw [Array.getElem?_toList]at hi;rw [probe.go,qjd hr hi];dsimp only;by_cases hq:hashAt i=h
   ·refine⟨n,Nat.le_refl _,fun k h1 h2=>by lia,.inr ⟨i,hi,hq,?_⟩⟩;rw [if_pos (beq_iff_eq.mpr hq),qlj];rfl
   ·rw [if_neg (by simpa using hq),qlj];have hne:m≠n:=fun e=>c (e▸hin)
    obtain⟨m',a',b',c'⟩:=Good.go hashAt h fuel (n+1) ⟨m,by lia,by lia,c⟩;refine⟨m',by lia,fun k h1 h2=>?_,c'⟩;rcases Nat.eq_or_lt_of_le h1 with rfl|h1
    ·exact⟨i,hi,hq⟩
    ·exact b' k h1 h2
  ·refine⟨n,Nat.le_refl _,fun k h1 h2=>by lia,.inl ⟨hin,?_⟩⟩;rw [probe.go,qhi G.dum fun i e=>hin (by rw [←Array.getElem?_toList]at e;exact List.mem_of_getElem? e)];dsimp only;rw [(qeg t.mask h n).dm]
theorem Good.fits(hf:hs.length≤t.mask):t.fits hs.length=true:=by
 unfold SetTable.fits SetTable.fill;rw [G.dum,G.len]
 simpa using hf
theorem Good.put{h:Int}{j:Nat}(hj:j∉t.place.toList)(hR:Reach t.mask (·∈t.place.toList) h j) :
  t.put j=({t with place:=insertAt t.place (below t.place j) j},below t.place j)∧below t.place j≤hs.length ∧
   Good {t with place:=insertAt t.place (below t.place j) j} (hs.take (below t.place j)++h::hs.drop (below t.place j)):=by
 have hr:=Ri.of G.ri;obtain⟨b1,b2⟩:=qbY hr j;have hb:below t.place j≤hs.length:=by rw [←G.len];exact b1
 refine⟨by unfold SetTable.put;dsimp only;rw [G.dum,qiS];simp,hb,?_⟩;have ins:(insertAt t.place (below t.place j) j).toList=t.place.toList.take (below t.place j)++j::t.place.toList.drop (below t.place j):=SetTable.toList_insertAt ..;have mem:∀{x},x∈(insertAt t.place (below t.place j) j).toList↔x=j∨x∈t.place.toList:=by
  intro x;rw [ins,List.mem_append,List.mem_cons];constructor
  ·rintro(h|h|h)
   ·exact .inr (List.mem_of_mem_take h)
   ·exact .inl h
   ·exact .inr (List.mem_of_mem_drop h)
  ·rintro(h|h)
   ·exact .inr (.inl h)
   ·rw [←List.take_append_drop (below t.place j) t.place.toList,List.mem_append]at h;rcases h with h|h
    ·exact .inl h
    ·exact .inr (.inr h)
 have jle:j≤t.mask:=by obtain⟨n,e,_⟩:=hR;rw [←e];exact qjp ..
 refine⟨G.ma,G.dum,?_,?_,?_,?_⟩
 ·show (insertAt t.place (below t.place j) j).size=_;rw [←Array.length_toList,ins];simp only [List.length_append,List.length_cons,List.length_take,List.length_drop,Array.length_toList,G.len]
 ·show (insertAt t.place (below t.place j) j).toList.Pairwise (· < ·);rw [ins];have pw:=G.ri;rw [←List.take_append_drop (below t.place j) t.place.toList,List.pairwise_append]at pw;have lo:∀x∈t.place.toList.take (below t.place j),x<j:=by
   intro x hx;obtain⟨i,hi⟩:=List.mem_iff_getElem?.mp hx;have il:i<below t.place j:=Nat.lt_of_not_le fun q=>by rw [List.getElem?_take,if_neg (by lia)]at hi;cases hi
   rw [List.getElem?_take_of_lt il,Array.getElem?_toList]at hi;exact(b2 i x hi).mp il
  have hi:∀x∈t.place.toList.drop (below t.place j),j<x:=by
   intro x hx;obtain⟨i,hi⟩:=List.mem_iff_getElem?.mp hx;rw [List.getElem?_drop,Array.getElem?_toList]at hi;have:=(b2 _ x hi)
   have ne:x≠j:=fun e=>hj (by rw [←e,←Array.getElem?_toList]at *;exact List.mem_of_getElem? hi)
   lia
  refine List.pairwise_append.mpr ⟨pw.1,List.pairwise_cons.mpr ⟨hi,pw.2.1⟩,fun a ha b hb=>?_⟩;rcases List.mem_cons.mp hb with rfl|hb
  ·exact lo a ha
  ·exact Nat.lt_trans (lo a ha) (hi b hb)
 ·intro x hx;rcases mem.mp hx with rfl|hx
  ·exact jle
  ·exact G.le x hx
 ·rintro⟨x,g⟩ hx;have up:∀y,y∈t.place.toList→y∈(insertAt t.place (below t.place j) j).toList:=fun y hy=>mem.mpr (.inr hy)
  change (x,g)∈(insertAt t.place (below t.place j) j).toList.zip _ at hx;rw [ins,List.zip_append (by simp only [List.length_take,Array.length_toList,G.len]),List.zip_cons_cons,List.mem_append,List.mem_cons]at hx;have old:(x,g)∈t.place.toList.zip hs→Reach t.mask (·∈(insertAt t.place (below t.place j) j).toList) g x:=fun q=>(G.re _ q).mono up
  have hz:t.place.toList.zip hs=(t.place.toList.take (below t.place j)).zip (hs.take (below t.place j))++(t.place.toList.drop (below t.place j)).zip (hs.drop (below t.place j)):=by
   rw [←List.zip_append (by simp only [List.length_take,Array.length_toList,G.len]),List.take_append_drop,List.take_append_drop]
  rcases hx with hx|hx|hx
  ·exact old (by rw [hz];exact List.mem_append_left _ hx)
  ·cases hx;exact hR.mono up
  ·exact old (by rw [hz];exact List.mem_append_right _ hx)
end
theorem qdZ{α β:Type}{f:α→Option β}:∀{l:List α},(∀x∈l,(f x).isSome=true)→∀i:Nat,(l.filterMap f)[i]? = (l[i]?).bind f
 | [],_,i=>by simp
 |a::l,h,i=>by
  obtain⟨b,hb⟩:=Option.isSome_iff_exists.mp (h a List.mem_cons_self);rw [List.filterMap_cons_some hb];cases i with
  |zero=>simp [hb]
  |succ i=>rw [List.getElem?_cons_succ,List.getElem?_cons_succ];exact qdZ (fun x hx=>h x (List.mem_cons_of_mem _ hx)) i
noncomputable def Fa(ow:Array (Option Nat))(j:Nat):Prop:=(ow.getD j (some 0)).isNone=true
theorem quy{ow:Array (Option Nat)}{j:Nat}:Fa ow j↔ow[j]? = some none:=by
 unfold Fa;rw [Array.getD_eq_getD_getElem?];cases h:ow[j]? with
 |none=>simp
 |some x=>cases x<;>simp
theorem qgx{mask:Nat}{h:Int}{ow:Array (Option Nat)}:∀(k fuel n:Nat) (x:Nat×Nat),k<fuel→x.1≤mask→pr mask h n=RS mask x→Fa ow (lp mask k x).1 →
  ∃m,n≤m∧layClean.free mask ow fuel x.1 x.2=some (pr mask h m).j∧Fa ow (pr mask h m).j∧∀l,n≤l→l<m→¬ Fa ow (pr mask h l).j
 |_,0,_,_,hk,_,_,_=>by lia
 |k,fuel+1,n,x,hk,hx,hn,hf=>by
  have run:=qfy mask (runEnd mask x.1-x.1) (RS mask x) rfl rfl;have rl:=qeb hx;have at_:∀c,c≤runEnd mask x.1-x.1→(pr mask h (n+c)).j=x.1+c:=fun c hc=>by rw [qfr,hn];exact run.2 c hc
  have nxt:pr mask h (n+(runEnd mask x.1-x.1+1))=RS mask (leap mask x.1 x.2):=by rw [qfr,hn];exact run.1
  rw [layClean.free];cases q:(List.range (runEnd mask x.1+1-x.1)).find? fun k=>(ow.getD (x.1+k) (some 0)).isNone with
  |some c=>
   obtain⟨h1,h2,h3⟩:=List.find?_range_eq_some.mp q;have hc:c≤runEnd mask x.1-x.1:=by have:=List.mem_range.mp h2;lia
   refine⟨n+c,by lia,by rw [at_ c hc],by rw [at_ c hc];exact h1,fun l a b=>?_⟩;have:=h3 (l-n) (by lia);rw [show l=n+(l-n)by lia,at_ (l-n) (by lia)];exact fun g=>by rw [show (ow.getD (x.1+(l-n)) (some 0)).isNone=true from g]at this;cases this
  |none=>
   have h3:=List.find?_range_eq_none.mp q;have no:∀c,c≤runEnd mask x.1-x.1→¬ Fa ow (x.1+c):=fun c hc=>by
    have:=h3 c (by lia);exact fun g=>by rw [show (ow.getD (x.1+c) (some 0)).isNone=true from g]at this;cases this
   dsimp only;cases k with
   |zero=>exact absurd hf (no 0 (by lia))
   |succ k=>
    obtain⟨m,a,b,c,d⟩:=qgx k fuel _ (leap mask x.1 x.2) (by lia) (qcb ..) nxt hf;refine⟨m,by lia,b,c,fun l l1 l2=>?_⟩;by_cases e:l<n+(runEnd mask x.1-x.1+1)
    ·rw [show l=n+(l-n)by lia,at_ (l-n) (by lia)];exact no _ (by lia)
    ·exact d l (by lia) l2
structure Lay(mask:Nat)(hs:List Int)(ow:Array (Option Nat))(k:Nat):Prop where
 sz:ow.size=mask+1
 lo:∀(j i:Nat),ow[j]? = some (some i)→i<k
 one:∀(j j' i:Nat),ow[j]? = some (some i)→ow[j']? = some (some i)→j=j'
 all:∀i h,i<k→hs[i]? = some h→∃j:Nat,ow[j]? = some (some i)∧Reach mask (fun j=>∃i,ow[j]? = some (some i)) h j
theorem qmq{mask:Nat}(hM:Mk mask){hs:List Int}{ow:Array (Option Nat)}{k:Nat}(L:Lay mask hs ow k)(hk:k≤mask):∃j,j≤mask∧Fa ow j:=by
 refine Classical.byContradiction fun g=>?_
 have:∀j,j<mask+1→∃i,ow[j]? = some (some i):=fun j hj=>by
  cases q:ow[j]? with
  |none=>have:=Array.getElem?_eq_none_iff.mp q;have:=L.sz;lia
  |some x=>
   cases x with
   |none=>exact absurd ⟨j,by lia,quy.mpr q⟩ g
   |some i=>exact⟨i,rfl⟩
 -- more places than things
 have len:=long k ((List.range k)) fun j hj=>List.mem_range.mpr hj
 have inj:∀n,n≤mask+1→∃l:List Nat,l.Nodup∧l.length=n∧∀i∈l,∃j,j<n∧ow[j]? = some (some i):=by
  intro n
  induction n with
  |zero=>exact fun _=>⟨[],List.nodup_nil,rfl,by simp⟩
  |succ n ih=>
   intro hn;obtain⟨l,a,b,c⟩:=ih (by lia);obtain⟨i,hi⟩:=this n (by lia);refine⟨i::l,List.nodup_cons.mpr ⟨fun hm=>?_,a⟩,by simp [b],fun x hx=>?_⟩
   ·obtain⟨j,h1,h2⟩:=c i hm;have:=L.one _ _ _ hi h2;lia
   ·rcases List.mem_cons.mp hx with rfl|hx
    ·exact⟨n,by lia,hi⟩
    ·obtain⟨j,h1,h2⟩:=c x hx;exact⟨j,by lia,h2⟩
 obtain⟨l,a,b,c⟩:=inj (mask+1) (Nat.le_refl _);have sub:∀i∈l,i<k:=fun i hi=>by obtain⟨j,_,h2⟩:=c i hi;exact L.lo _ _ h2
 have:l.length≤(List.range k).length:=by
  have:∀(l r:List Nat),l.Nodup→(∀i∈l,i∈r)→l.length≤r.length:=by
   intro l
   induction l with
   |nil=>intro r _ _;exact Nat.zero_le _
   |cons a l ih=>
    intro r hn hs;rw [List.nodup_cons]at hn;have:=ih (r.erase a) hn.2 fun i hi=>(List.mem_erase_of_ne (a:=i) (b:=a) (fun e=>hn.1 (by rw [←e];exact hi))).mpr (hs i (List.mem_cons_of_mem _ hi))
    have b:=List.length_erase_of_mem (hs a List.mem_cons_self);have c:=List.length_pos_of_mem (hs a List.mem_cons_self);simp only [List.length_cons];lia
  exact this _ _ a fun i hi=>List.mem_range.mpr (sub i hi)
 rw [List.length_range]at this;lia
theorem qmn{mask:Nat}(hM:Mk mask){hs:List Int}{ow:Array (Option Nat)}{k:Nat}(L:Lay mask hs ow k)(hk:k≤mask){h:Int}(hh:hs[k]? = some h) :
  ∃j,layClean.free mask ow (turns mask) (bits h%(mask+1)) (bits h)=some j∧Lay mask hs (ow.setIfInBounds j (some k)) (k+1):=by
 obtain⟨j0,h1,h2⟩:=qmq hM L hk;have o:=qeg mask h 0;have hx:bits h%(mask+1)≤mask:=Nat.le_of_lt_succ (Nat.mod_lt _ (Nat.succ_pos _));obtain⟨c,h3,h4⟩:=qor hM (x:=(bits h%(mask+1),bits h)) o.pt hx h1;obtain⟨m,_,a,b,d⟩:=qgx (h:=h) (ow:=ow) c (turns mask) 0 (bits h%(mask+1),bits h) (by unfold turns;lia) hx rfl (by rw [h4];exact h2);have jl:(pr mask h m).j≤mask:=qjp ..;have hf:=quy.mp b;have old:∀{x i:Nat},ow[x]? = some (some i)→(ow.setIfInBounds (pr mask h m).j (some k))[x]? = some (some i):=fun {x i} e=>by
  rw [Array.getElem?_setIfInBounds,if_neg];· exact e
  ·intro q;rw [q,e]at hf;cases hf
 have new:(ow.setIfInBounds (pr mask h m).j (some k))[(pr mask h m).j]? = some (some k):=by
  rw [Array.getElem?_setIfInBounds,if_pos rfl,if_pos (by rw [L.sz];lia)]
 have inv:∀{x i:Nat},(ow.setIfInBounds (pr mask h m).j (some k))[x]? = some (some i)→(x=(pr mask h m).j∧i=k)∨ow[x]? = some (some i):=fun {x i} e=>by
  rw [Array.getElem?_setIfInBounds]at e;split at e
  ·rename_i q
   rw [if_pos (by rw [L.sz];lia)]at e;cases e;exact .inl ⟨q.symm,rfl⟩
  ·exact .inr e
 refine⟨_,a,⟨by rw [Array.size_setIfInBounds];exact L.sz,fun x i e=>?_,fun x y i e e'=>?_,fun i g hi hg=>?_⟩⟩
 ·rcases inv e with ⟨_,rfl⟩|e
  ·lia
  ·have:=L.lo _ _ e;lia
 ·rcases inv e with ⟨e1,e0⟩|e1<;>rcases inv e' with ⟨e2,e3⟩|e2
  ·rw [e1,e2]
  ·have:=L.lo _ _ e2;lia
  ·have:=L.lo _ _ e1;lia
  ·exact L.one _ _ _ e1 e2
 ·by_cases hik:i=k
  ·subst hik;rw [hh]at hg;cases hg;refine⟨_,new,m,rfl,fun l hl=>?_⟩;have nf:=d l (Nat.zero_le _) hl;cases q:ow[(pr mask h l).j]? with
   |none=>have:=Array.getElem?_eq_none_iff.mp q;have:=L.sz;have:=qjp mask h l;lia
   |some y=>
    cases y with
    |none=>exact absurd (quy.mpr q) nf
    |some i=>exact⟨i,old q⟩
  ·obtain⟨j,e,r⟩:=L.all i g (by lia) hg;exact⟨j,old e,r.mono fun j ⟨i,e⟩=>⟨i,old e⟩⟩
noncomputable def qjK(mask:Nat):Option (Array (Option Nat)×Nat)→Int→Option (Array (Option Nat)×Nat):=fun acc h=>do
  let (owner,k) ←acc
  let j ←layClean.free mask owner (turns mask) (bits h%(mask+1)) (bits h)
  pure (owner.setIfInBounds j (some k),k+1)
theorem qhC{mask:Nat}(hM:Mk mask):∀(ls dn:List Int) (ow:Array (Option Nat)),(dn++ls).length≤mask+1→Lay mask (dn++ls) ow dn.length →
  ∃ow',ls.foldl (qjK mask) (some (ow,dn.length))=some (ow',(dn++ls).length)∧Lay mask (dn++ls) ow' (dn++ls).length
 | [],dn,ow,hl,L=>⟨ow,by simp,by simpa using L⟩
 |h::ls,dn,ow,hl,L=>by
  have hl':=hl;simp only [List.length_append,List.length_cons]at hl';obtain⟨j,e,L'⟩:=qmn hM L (by lia) (h:=h) (by simp);have e1:dn++h::ls=dn++[h]++ls:=by simp
  have:=qhC hM ls (dn++[h]) (ow.setIfInBounds j (some dn.length)) (by rw [←e1];exact hl) (by rw [←e1];simpa using L');obtain⟨ow',a,b⟩:=this;refine⟨ow',?_,by rw [e1];exact b⟩;rw [List.foldl_cons,e1,←a]
  congr 1
  simp only [qjK,e,Option.bind_eq_bind,Option.bind_some];simp
theorem qlL{mask:Nat}(hM:Mk mask)(hs:List Int)(hl:hs.length≤mask+1):∃ow,layClean mask hs.toArray=some ow∧Lay mask hs ow hs.length:=by
 have L0:Lay mask ([]++hs) (Array.replicate (mask+1) none) ([]:List Int).length:=by
  have no:∀(x i:Nat),(Array.replicate (mask+1) (none:Option Nat))[x]?≠some (some i):=fun x i e=>by
   rw [Array.getElem?_replicate]at e;split at e<;>cases e
  exact⟨by simp,fun j i e=>absurd e (no j i),fun j _ i e=>absurd e (no j i),fun i g hi=>by simp at hi⟩
 obtain⟨ow,a,b⟩:=qhC hM hs [] _ (by simpa using hl) L0;refine⟨ow,?_,by simpa using b⟩;show (Array.foldl (qjK mask) (some (Array.replicate (mask+1) none,0)) hs.toArray).map (·.1)=some ow;rw [←Array.foldl_toList];rw [show hs.toArray.toList=hs from rfl];rw [show (some (Array.replicate (mask+1) (none:Option Nat),0))=some (Array.replicate (mask+1) none,([]:List Int).length)from rfl,a]
 rfl
theorem qeI(ow:Array (Option Nat)):∀l:List Nat,(l.filterMap fun j=>(ow.getD j none).map (j,·)).map (·.1)=l.filter fun j=>(ow.getD j none).isSome
 | []=>rfl
 |j::l=>by
  cases q:ow.getD j none with
  |none=>rw [List.filterMap_cons_none (by rw [q];rfl),List.filter_cons_of_neg (by rw [q];simp)];exact qeI ow l
  |some i=>rw [List.filterMap_cons_some (by rw [q];rfl),List.filter_cons_of_pos (by rw [q];simp),List.map_cons,qeI ow l]
theorem qnq{ow:Array (Option Nat)}{mask:Nat}(hz:ow.size=mask+1){j i:Nat}:(j,i)∈((List.range (mask+1)).filterMap fun j=>(ow.getD j none).map (j,·))↔ow[j]? = some (some i):=by
 rw [List.mem_filterMap];constructor
 ·rintro⟨x,_,e⟩;rw [Option.map_eq_some_iff]at e;obtain⟨y,e1,e2⟩:=e;cases e2;rw [Array.getD_eq_getD_getElem?]at e1;cases q:ow[j]? with
  |none=>rw [q]at e1;cases e1
  |some z=>rw [q]at e1;rw [show z=some i from e1]
 ·intro e;have:=(Array.getElem?_eq_some_iff.mp e).1;exact⟨j,List.mem_range.mpr (by lia),by rw [Array.getD_eq_getD_getElem?,e];rfl⟩
theorem relaid{mask:Nat}(hM:Mk mask)(hs:List Int)(hl:hs.length≤mask+1)(fi mo:Nat)(le pl:Bool) :
  ∃t' order,laid mask fi mo le pl hs.toArray=some (t',order)∧order.toList.Perm (List.range hs.length)∧Good t' (order.toList.filterMap (hs[·]?))∧t'.mask=mask∧t'.led=le∧t'.plain=pl∧t'.moves=mo:=by
 obtain⟨ow,a,L⟩:=qlL hM hs hl;generalize hv:((List.range (mask+1)).filterMap fun j=>(ow.getD j none).map (j,·))=live;have mem:∀{j i:Nat},(j,i)∈live↔ow[j]? = some (some i):=fun {j i}=>by rw [←hv];exact qnq L.sz
 have fst:live.map (·.1)=(List.range (mask+1)).filter fun j=>(ow.getD j none).isSome:=by rw [←hv];exact qeI ow _
 have ri:(live.map (·.1)).Pairwise (· < ·):=by rw [fst];exact List.pairwise_lt_range.filter _
 have nd:(live.map (·.2)).Nodup:=by
  have:live.Pairwise fun x y=>x.1<y.1:=List.pairwise_map.mp ri
  unfold List.Nodup;rw [List.pairwise_map];refine(List.Pairwise.and_mem.mp this).imp fun {x y} ⟨hx,hy,hlt⟩ e=>?_
  have e1:=mem.mp (show (x.1,x.2)∈live from hx);have e2:=mem.mp (show (y.1,y.2)∈live from hy);rw [←e]at e2;have:=L.one _ _ _ e1 e2;lia
 have pm:(live.map (·.2)).Perm (List.range hs.length):=by
  refine(List.perm_ext_iff_of_nodup nd List.nodup_range).mpr fun i=>?_
  rw [List.mem_map,List.mem_range];constructor
  ·rintro⟨⟨j,x⟩,h1,rfl⟩;exact L.lo _ _ (mem.mp h1)
  ·intro hi;obtain⟨j,e,_⟩:=L.all i (hs[i]) hi (List.getElem?_eq_getElem hi);exact⟨(j,i),mem.mpr e,rfl⟩
 refine⟨{mask,place:=(live.map (·.1)).toArray,dummies:=#[],finger:=fi,led:=le,moves:=mo,plain:=pl},(live.map (·.2)).toArray,?_,?_⟩
 ·unfold laid;rw [a];simp only [Option.bind_eq_bind,Option.bind_some];rw [hv];rfl
 ·refine⟨pm,?_,rfl,rfl,rfl,rfl⟩;have okk:∀x∈live.map (·.2),(hs[x]?).isSome=true:=fun x hx=>by
   have:=List.mem_range.mp (pm.mem_iff.mp hx);rw [List.getElem?_eq_getElem this];rfl
  have ln:((live.map (·.2)).filterMap (hs[·]?)).length=live.length:=by
   have:((live.map (·.2)).filterMap (hs[·]?)).Perm hs:=by
    refine(pm.filterMap _).trans ?_;rw [List.filterMap_getElem?_range_length]
   have p2:=pm.length_eq;rw [this.length_eq];simp at p2;lia
  refine⟨hM,rfl,?_,ri,fun j hj=>?_,?_⟩
  ·show (live.map (·.1)).toArray.size=((live.map (·.2)).filterMap (hs[·]?)).length;rw [ln];simp
  ·rw [show (live.map (·.1)).toArray.toList=live.map (·.1)from rfl,fst,List.mem_filter,List.mem_range]at hj;exact Nat.le_of_lt_succ hj.1
  ·rintro⟨j,g⟩ hx;obtain⟨i,hi⟩:=List.mem_iff_getElem?.mp hx;have hz:=List.getElem?_zip_eq_some.mp hi;have h1:=hz.1;have h2:=hz.2;rw [show (live.map (·.1)).toArray.toList=live.map (·.1)from rfl,List.getElem?_map]at h1;rw [show (live.map (·.2)).toArray.toList=live.map (·.2)from rfl,qdZ okk,List.getElem?_map]at h2;cases q:live[i]? with
   |none=>rw [q]at h1;cases h1
   |some y=>
    rw [q]at h1 h2;cases h1;obtain⟨j',e,r⟩:=L.all y.2 g (by have:=okk y.2 (List.mem_map.mpr ⟨y,List.mem_of_getElem? q,rfl⟩);rw [Option.isSome_iff_exists]at this;obtain⟨_,this⟩:=this;exact(List.getElem?_eq_some_iff.mp this).1) h2;have e2:=mem.mp (show (y.1,y.2)∈live from List.mem_of_getElem? q);have:=L.one _ _ _ e e2;subst this;exact r.mono fun j ⟨i,e⟩=>by
     rw [show (live.map (·.1)).toArray.toList=live.map (·.1)from rfl];exact List.mem_map.mpr ⟨(j,i),mem.mpr e,rfl⟩
end ST
namespace ST
open PySem PySem.Spec PySem.SetTable
section
variable{K:Type} [DecidableEq K]
noncomputable def ent(hash:K→Int)(x:K×Value):Int×Value:=(hash x.1,x.2)
noncomputable def qbN(es:List (Int×Value))(ep:Nat)(t:SetTable):Obj:={cls:=.type "set",dict:=none,data:=.set es.toArray ep t,slots:=#[]}
structure Tb(w:World)(hash:K→Int)(xs:List (K×Value))(t:SetTable):Prop where
 good:Good t (xs.map fun x=>hash x.1)
 few:xs.length * 5<t.mask * 3
 led:t.led = !w.params.followText "set-order"
 plain:t.plain=true
 nd:(xs.map (·.1)).Nodup
noncomputable def qcy(w:World)(hash:K→Int)(xs:List (K×Value))(o:Obj):Prop:=∃ep t,o=qbN (xs.map (ent hash)) ep t∧Tb w hash xs t
variable{w:World}{hash:K→Int}{xs:List (K×Value)}{t:SetTable}
theorem Tb.fits(T:Tb w hash xs t):t.fits (xs.map (ent hash)).toArray.size=true:=by
 have:=T.good.fits (by rw [List.length_map];have:=T.few;rcases T.good.ma with h|h|h<;>rw [h]at this ⊢ <;> lia)
 simpa using this
theorem Tb.nil(fi mo:Nat):Tb w hash [] (.fresh fi mo (!w.params.followText "set-order")):=by
 refine⟨⟨.inl rfl,rfl,rfl,.nil,(fun j h=>absurd h (by simp [SetTable.fresh])),(fun jh h=>absurd h (by simp [SetTable.fresh]))⟩,by show 0 * 5<7 * 3;lia,rfl,rfl,.nil⟩
theorem qsO(hash:K→Int)(es:List (K×Value))(p:Nat)(x:K×Value):insertAt (es.map (ent hash)).toArray p (hash x.1,x.2)=((es.take p++x::es.drop p).map (ent hash)).toArray:=by
 apply Array.toList_inj.mp;rw [SetTable.toList_insertAt];simp [ent]
theorem Tb.put(T:Tb w hash xs t){k:K}{v:Value}{j:Nat}(hj:j∉t.place.toList)(hR:Reach t.mask (·∈t.place.toList) (hash k) j)(hk:k∉xs.map (·.1)) :
  ∃p,t.put j=({t with place:=insertAt t.place p j},p)∧Good {t with place:=insertAt t.place p j} ((xs.take p++(k,v)::xs.drop p).map fun x=>hash x.1) ∧
   (xs.take p++(k,v)::xs.drop p).Perm (xs++[(k,v)])∧((xs.take p++(k,v)::xs.drop p).map (·.1)).Nodup:=by
 obtain⟨a,b,c⟩:=T.good.put hj hR;have pm:(xs.take (below t.place j)++(k,v)::xs.drop (below t.place j)).Perm (xs++[(k,v)]):=by
  refine List.perm_middle.trans ?_;rw [List.take_append_drop];exact(List.perm_append_singleton _ _).symm
 refine⟨below t.place j,a,?_,pm,?_⟩
 ·simpa [List.map_append,List.map_take,List.map_drop]using c
 ·refine((pm.map (·.1)).nodup_iff).mpr ?_;rw [List.map_append,List.nodup_append];exact⟨T.nd,by simp,fun a ha b hb=>by simp at hb;subst hb;exact fun e=>hk (e▸ha)⟩
theorem qoQ{n:Nat}(hn:n+1<64)(hm:Mk t.mask)(hd:t.dummies = #[])(hl:t.place.size=n+1)(hf:n * 5<t.mask * 3) :
  (t.tooFull=false∧(n+1) * 5<t.mask * 3)∨(t.tooFull=true∧∃m,Mk m∧sizeAbove (grown (n+1))-1=m∧sizeAbove (grown (n+1))≤128∧n+1≤m+1∧(n+1) * 5<m * 3):=by
 have e:t.tooFull=decide ((n+1) * 5 ≥ t.mask * 3):=by unfold tooFull fill;rw [hd,hl];rfl
 rw [e];by_cases q:(n+1) * 5 ≥ t.mask * 3
 ·refine .inr ⟨by simpa using q,?_⟩;rcases hm with h|h|h<;>rw [h]at q hf
  ·obtain rfl:n=4:=by lia
   exact⟨31,.inr (.inl rfl),by decide,by decide,by lia,by lia⟩
  ·obtain rfl:n=18:=by lia
   exact⟨127,.inr (.inr rfl),by decide,by decide,by lia,by lia⟩
  ·lia
 ·exact .inl ⟨by simpa using q,by lia⟩
theorem qtx{t:SetTable}{ys:List (K×Value)}{n m:Nat}(hM:Mk m)(hs:sizeAbove (grown (n+1))-1=m)(hl:n+1≤m+1)(hq:(n+1) * 5<m * 3)(hn:ys.length=n+1)(led:t.led = !w.params.followText "set-order")(plain:t.plain=true)(nd:(ys.map (·.1)).Nodup) :
  ∃t' order zs,t.relaid ((ys.map (ent hash)).toArray.map (·.1)) (grown (n+1))=some (t',order)∧order.filterMap ((ys.map (ent hash)).toArray[·]?)=(zs.map (ent hash)).toArray∧order.toList.Perm (List.range (n+1))∧zs.Perm ys∧Tb w hash zs t':=by
 have e0:(ys.map (ent hash)).toArray.map (·.1)=(ys.map fun x=>hash x.1).toArray:=by
  apply Array.toList_inj.mp;simp [ent,Function.comp_def]
 obtain⟨t',order,h1,h2,h3,h4,h5,h6,h7⟩:=relaid hM (ys.map fun x=>hash x.1) (by rw [List.length_map,hn];exact hl) t.finger (t.movedTo m) t.led t.plain;rw [List.length_map,hn]at h2;have pz:(order.toList.filterMap (ys[·]?)).Perm ys:=by
  refine(h2.filterMap _).trans ?_;rw [←hn,List.filterMap_getElem?_range_length]
 refine⟨t',order,order.toList.filterMap (ys[·]?),?_,?_,h2,pz,⟨?_,?_,h5.trans led,h6.trans plain,?_⟩⟩
 ·unfold SetTable.relaid;rw [hs,e0];exact h1
 ·apply Array.toList_inj.mp;rw [Array.toList_filterMap,List.map_filterMap];refine congrArg (fun f=>List.filterMap f order.toList) (funext fun i=>?_);simp
 ·rw [List.map_filterMap];refine(congrArg (Good t') (congrArg (fun f=>List.filterMap f order.toList) (funext fun i=>?_))).mp h3;simp
 ·rw [pz.length_eq,hn,h4];exact hq
 ·exact((pz.map (·.1)).nodup_iff).mpr nd
end
section
variable{prog:Program}{w:World}{A:Around}{E:Value→Shared→Prop}{s:Shared}{K:Type} [DecidableEq K]{hash:K→Int}
theorem store{a:Addr}{es:List (Int×Value)}{ep:Nat}{t t':SetTable}{es':Array (Int×Value)}{Q:Unit→Shared→Prop}(ho:s.heap.get? a=some (qbN es ep t))(hz:es'.size≤sizeLine)
  (h:∀h',Heap.SameBut a s.heap h'→h'.get? a=some (qbN es'.toList (ep+1) t')→Q () {s with heap:=h'}):wpAny (model prog w) A (storeSet a es' t') Q E s:=by
 refine wpAny_storeSet_of ho rfl (h _ (Heap.SameBut.update _ _ _) ?_) hz;have:=Heap.get?_update_self (Obj.putSet es' t') ho (by rw [putSet_of es' t' rfl];rfl);rw [putSet_of es' t' rfl]at this;rw [this];simp [qbN]
theorem stored{a:Addr}{xs:List (K×Value)}{ep:Nat}{t:SetTable}{k:K}{v:Value}{j:Nat}(ho:s.heap.get? a=some (qbN (xs.map (ent hash)) ep t))(T:Tb w hash xs t)(hj:j∉t.place.toList)(hR:Reach t.mask (·∈t.place.toList) (hash k) j)(hk:k∉xs.map (·.1))(hn:xs.length+1<64)
  {Q:Bool→Shared→Prop} (h:∀h' ys,Heap.SameBut a s.heap h'→(∃o,h'.get? a=some o∧qcy w hash ys o)→ys.Perm (xs++[(k,v)])→Q true {s with heap:=h'}) :
  ∃p,t.put j=({t with place:=insertAt t.place p j},p)∧wpAny (model prog w) A (do
   storeSet a (insertAt (xs.map (ent hash)).toArray p (hash k,v)) {t with place:=insertAt t.place p j}
   if !false&&({t with place:=insertAt t.place p j}:SetTable).tooFull then setRelay a (SetTable.grown ((xs.map (ent hash)).toArray.size+1))
   return true) Q E s:=by
 obtain⟨p,e1,g,pm,nd⟩:=T.put (v:=v) hj hR hk;refine⟨p,e1,?_⟩;have e2:insertAt (xs.map (ent hash)).toArray p (hash k,v)=((xs.take p++(k,v)::xs.drop p).map (ent hash)).toArray:=qsO hash xs p (k,v);rw [e2];generalize hy:xs.take p++(k,v)::xs.drop p=ys at *;have hl:ys.length=xs.length+1:=by rw [pm.length_eq];simp
 have zl:ys.length≤sizeLine:=by rw [hl,sizeLine_eq];lia
 have len:=g.len;rw [List.length_map,hl]at len;refine wpAny_bind (store ho (by simpa using zl) fun h1 sb1 o1=>?_);rcases qoQ (t:={t with place:=insertAt t.place p j}) hn T.good.ma T.good.dum len T.few with ⟨f,few⟩|⟨f,m,hM,hs,hsl,hl',hq⟩
 ·rw [f];simp only [Bool.not_false,Bool.and_false,Bool.false_eq_true,if_false];refine wpAny_pure (h h1 ys sb1 ⟨_,o1,ep+1,_,rfl,⟨g,by rw [hl];exact few,T.led,T.plain,nd⟩⟩ pm)
 ·rw [f];simp only [Bool.not_false,Bool.and_self,if_true];obtain⟨t',order,zs,r1,r2,r3,r4,r5⟩:=qtx (w:=w) (hash:=hash) (t:={t with place:=insertAt t.place p j}) hM hs hl' hq hl T.led T.plain nd;refine wpAny_bind ?_;unfold setRelay;refine wpAny_bind (wpAny_setState_of o1 rfl ?_ ?_)
  ·show SetTable.fits _ (ys.map (ent hash)).toArray.size=true;have:=g.fits (by rw [List.length_map,hl];have:=T.few;show _≤t.mask;rcases T.good.ma with h|h|h<;>rw [h]at this ⊢ <;> lia)
   simpa using this
  dsimp only;rw [show (xs.map (ent hash)).toArray.size+1=xs.length+1 by simp];rw [if_neg (by rw [sizeLine_eq];lia)];rw [r1];refine wpAny_bind ?_;show wpAny _ _ (if ((order.filterMap ((ys.map (ent hash)).toArray[·]?)).size != (ys.map (ent hash)).toArray.size)=true then _ else _) _ _ _;rw [r2];have zs_l:zs.length=ys.length:=r4.length_eq;rw [if_neg (by simp [zs_l])];refine wpAny_pure ?_;refine store (es:=ys.map (ent hash)) (ep:=ep+1) o1 (by simp [zs_l];exact zl) fun h2 sb2 o2=>?_
  exact wpAny_pure (h h2 zs (sb1.trans sb2) ⟨_,o2,ep+1+1,t',rfl,r5⟩ (r4.trans pm))
end
section
variable{prog:Program}{w:World}{A:Around}{E:Value→Shared→Prop}{s:Shared}
noncomputable def qnk(prog:Program)(w:World)(h:Heap)(k:List Int)(v:Value):Prop:=∃r,v=.ref r∧IsTupleKey (intKind prog w) h k r
abbrev tuH(prog:Program)(w:World):List Int→Int:=tupleKeyHash (intKind prog w)
theorem qfA{ks:List Int}{vs:List Value}(h:ItemsAre (intKind prog w) ks vs):∀v∈vs,∃n t,v=.int n t:=by
 induction h with
 |nil=>intro v hv;cases hv
 |cons h1 _ ih=>
  intro v hv;rcases List.mem_cons.mp hv with rfl|hv
  ·obtain⟨t,e⟩:=Value.isInt_shape h1;exact⟨_,t,e⟩
  ·exact ih v hv
theorem qja{k:List Int}{r:Addr}{Q:Bool→Shared→Prop}(hk:IsTupleKey (intKind prog w) s.heap k r)(h:Q false s):wpAny (model prog w) A (ofAClassStatement 8 (.ref r)) Q E s:=by
 have hT:=hk.typeIs;obtain⟨o,items,n,ho,_,hd,hi⟩:=hk;unfold ofAClassStatement;refine wpAny_bind (wpAny_typeOf hT ?_);dsimp only;rw [if_pos (by rfl)];refine wpAny_bind (wpAny_pure ?_);simp only [Bool.not_true,Bool.false_eq_true,if_false];refine wpAny_bind (wpAny_seqItems ho hd ?_);refine wpAny_bind ?_;show wpAny _ _ (forIn items _ _) _ _ s;rw [←Array.forIn_toList];refine wpAny_forIn_list _ (fun rest r s'=>r.1=none∧s'=s∧∀v∈rest,∃n t,v=.int n t) _ ?_ ?_ _ _ ⟨rfl,rfl,qfA hi⟩
 ·rintro v rest r s' ⟨hr,rfl,hall⟩;obtain⟨n,t,rfl⟩:=hall v List.mem_cons_self;rw [show ofAClassStatement 7 (.int n t)=pure false by unfold ofAClassStatement;rfl];refine wpAny_bind (wpAny_pure ?_);simp only [Bool.false_eq_true,if_false];exact wpAny_pure ⟨rfl,rfl,fun u hu'=>hall u (List.mem_cons_of_mem _ hu')⟩
 ·rintro⟨r1,r2⟩ s' ⟨hr,rfl,_⟩;simp only at hr;subst hr;exact wpAny_pure h
theorem byValue{k:List Int}{r:Addr}{Q:Bool→Shared→Prop}(hk:IsTupleKey (intKind prog w) s.heap k r)(h:Q true s):wpAny (model prog w) A (hashByValue 8 (.ref r)) Q E s:=by
 have hT:=hk.typeIs;obtain⟨o,items,n,ho,_,hd,hi⟩:=hk;unfold hashByValue;refine wpAny_bind (wpAny_specialOf hT F.slot_tuple_hash.lookup ?_);refine wpAny_bind (wpAny_seqItems ho hd ?_);refine wpAny_bind ?_;show wpAny _ _ (forIn items _ _) _ _ s;rw [←Array.forIn_toList];refine wpAny_forIn_list _ (fun rest r s'=>r.1=none∧s'=s∧∀v∈rest,∃n t,v=.int n t) _ ?_ ?_ _ _ ⟨rfl,rfl,qfA hi⟩
 ·rintro v rest r s' ⟨hr,rfl,hall⟩;obtain⟨n,t,rfl⟩:=hall v List.mem_cons_self;rw [show hashByValue 7 (.int n t)=pure true by unfold hashByValue;rfl];refine wpAny_bind (wpAny_pure ?_);simp only [Bool.not_true,Bool.false_eq_true,if_false];exact wpAny_pure ⟨rfl,rfl,fun u hu'=>hall u (List.mem_cons_of_mem _ hu')⟩
 ·rintro⟨r1,r2⟩ s' ⟨hr,rfl,_⟩;simp only at hr;subst hr;exact wpAny_pure h
theorem qqv{k:List Int}{r:Addr}(hk:IsTupleKey (intKind prog w) s.heap k r){ys:List Value}(hy:∀y∈ys,∃k r,y=.ref r∧IsTupleKey (intKind prog w) s.heap k r){Q:Bool→Shared→Prop}(h:Q false s) :
  wpAny (model prog w) A (searchCouldBeSeen (.ref r) ys) Q E s:=by
 unfold searchCouldBeSeen;refine wpAny_bind ?_;refine wpAny_forIn_list _ (fun rest r s'=>r.1=none∧s'=s∧∀y∈rest,∃k r,y=.ref r∧IsTupleKey (intKind prog w) s.heap k r) _ ?_ ?_ _ _ ⟨rfl,rfl,hy⟩
 ·rintro v rest r' s' ⟨hr,rfl,hall⟩;obtain⟨k',r2,rfl,hk'⟩:=hall v List.mem_cons_self;have hall':∀y∈rest,∃k r,y=.ref r∧IsTupleKey (intKind prog w) s'.heap k r:=fun u hu'=>hall u (List.mem_cons_of_mem _ hu')
  dsimp only;split
  ·exact wpAny_pure ⟨rfl,rfl,hall'⟩
  ·refine wpAny_bind (wpAny_eqIsQuiet_tuple hk ?_);simp only [Bool.not_true,Bool.false_eq_true,if_false];refine wpAny_bind (wpAny_eqIsQuiet_tuple hk' ?_);simp only [Bool.not_true,Bool.false_eq_true,if_false];refine wpAny_bind (qja hk ?_);simp only [Bool.not_true,Bool.false_eq_true,if_false];refine wpAny_bind (qja hk' ?_);simp only [Bool.not_true,Bool.false_eq_true,if_false];exact wpAny_pure ⟨rfl,rfl,hall'⟩
 ·rintro⟨r1,r2⟩ s' ⟨hr,rfl,_⟩;simp only at hr;subst hr;exact wpAny_pure h
theorem qjW{t:SetTable}{hs:List Int}(G:Good t hs)(hf:hs.length≤t.mask)(h:Int):∃m,m<10 * turns t.mask∧(pr t.mask h m).j∉t.place.toList∧∀k,k<m→(pr t.mask h k).j∈t.place.toList:=by
 obtain⟨m0,_,b0,c0⟩:=G.free hf h 0;obtain⟨m,_,b,c⟩:=G.go (fun _=>h+1) h (10 * turns t.mask) 0 ⟨m0,Nat.zero_le _,b0,c0⟩;have occ:∀k,k<m→(pr t.mask h k).j∈t.place.toList:=fun k hk=>by
  obtain⟨i,hi,_⟩:=b k (Nat.zero_le _) hk;rw [←Array.getElem?_toList]at hi;exact List.mem_of_getElem? hi
 rcases c with ⟨c,_⟩|⟨i,_,c,_⟩
 ·refine⟨m,?_,c,occ⟩;have:m≤m0:=Nat.le_of_not_lt fun q=>c0 (occ m0 q)
  lia
 ·lia
end
section
variable{prog:Program}{w:World}{A:Around}{E:Value→Shared→Prop}{s:Shared}
theorem qhd{m:Nat}(h:Mk m):(m%2==0)=false:=by rcases h with rfl|rfl|rfl<;>rfl
theorem search{a r:Addr}{xs:List (List Int×Value)}{ep:Nat}{t:SetTable}{k:List Int}(hu:A.units<cLine)(ho:s.heap.get? a=some (qbN (xs.map (ent (tuH prog w))) ep t))(T:Tb w (tuH prog w) xs t)
  (hel:∀x∈xs,qnk prog w s.heap x.1 x.2) (hk:IsTupleKey (intKind prog w) s.heap k r) {ms:Nat} (hms:(pr t.mask (tuH prog w k) ms).j∉t.place.toList) (hoc:∀m,m<ms→(pr t.mask (tuH prog w k) m).j∈t.place.toList)
  {Q:SetFound→Shared→Prop} (h1:k∈xs.map (·.1)→Q (.there none) s) (h2:k∉xs.map (·.1)→Q (.free (pr t.mask (tuH prog w k) ms).j false) s) :
  ∀(d n fuel:Nat) (stand:Option Probe),ms-n≤d→n≤ms→d<fuel→stand.getD (t.probeStart (tuH prog w k))=pr t.mask (tuH prog w k) n →
   (∀(i:Nat) (x:List Int×Value),xs[i]? = some x→x.1=k→∃n0,n≤n0∧n0<ms∧t.place[i]? = some (pr t.mask (tuH prog w k) n0).j) →
   wpAny (model prog w) A (setSearchFrom a (.ref r) (tuH prog w k) true fuel stand) Q E s:=by
 have hr:=Ri.of T.good.ri;have hf:(xs.map fun x=>tuH prog w x.1).length≤t.mask:=by rw [List.length_map];have:=T.few;rcases T.good.ma with h|h|h<;>rw [h]at this ⊢ <;> lia
 intro d
 induction d with
 |zero=>
  intro n fuel stand hd hn hfu hst h0;obtain⟨fuel,rfl⟩:∃f,fuel=f+1:=⟨fuel-1,by lia⟩
  obtain rfl:n=ms:=by lia
  have abs:k∉xs.map (·.1):=fun hm=>by
   obtain⟨x,hx,e⟩:=List.mem_map.mp hm;obtain⟨i,hi⟩:=List.mem_iff_getElem?.mp hx;obtain⟨n0,a,b,_⟩:=h0 i x hi e;lia
  unfold setSearchFrom;refine wpAny_bind (wpAny_setState_of ho rfl T.fits ?_);dsimp only;unfold gaveWay;rw [qhd T.good.ma];simp only [Bool.false_eq_true,if_false];rw [hst];have e:t.probe (fun i=>(((xs.map (ent (tuH prog w))).toArray[i]?).map (·.1)).getD 0) (tuH prog w k) (pr t.mask (tuH prog w k) n)=some (.empty (pr t.mask (tuH prog w k) n).j none):=by
   unfold probe;rw [show 10 * turns t.mask=(10 * turns t.mask-1)+1 by unfold turns;lia,probe.go,qhi T.good.dum fun i e=>hms (by rw [←Array.getElem?_toList]at e;exact List.mem_of_getElem? e)];dsimp only;rw [(qeg t.mask _ n).dm]
  show wpAny _ _ (match t.probe (fun i=>(((xs.map (ent (tuH prog w))).toArray[i]?).map (·.1)).getD 0) (tuH prog w k) (pr t.mask (tuH prog w k) n)with|some met=>_|x=>_) _ _ _;rw [e];exact wpAny_pure (h2 abs)
 |succ d ih=>
  intro n fuel stand hd hn hfu hst h0;obtain⟨fuel,rfl⟩:∃f,fuel=f+1:=⟨fuel-1,by lia⟩
  obtain⟨m,hm1,hm2,hm3⟩:=T.good.go (fun i=>(((xs.map (ent (tuH prog w))).toArray[i]?).map (·.1)).getD 0) (tuH prog w k) (10 * turns t.mask) n (T.good.free hf _ n);have at_:∀{i:Nat}{j:Nat},t.place[i]? = some j→∃x,xs[i]? = some x∧(((xs.map (ent (tuH prog w))).toArray[i]?).map (·.1)).getD 0=tuH prog w x.1∧(xs.map (ent (tuH prog w))).toArray[i]? = some (tuH prog w x.1,x.2):=fun {i j} e=>by
   have:=(Array.getElem?_eq_some_iff.mp e).1;have ln:=T.good.len;rw [List.length_map]at ln;have hx:xs[i]? = some xs[i]:=List.getElem?_eq_getElem (by lia);refine⟨xs[i],hx,?_,?_⟩
   ·simp [hx,ent]
   ·simp [hx,ent]
  have uni:∀{i i' j:Nat},t.place[i]? = some j→t.place[i']? = some j→i=i':=fun e e'=>(below_at hr e).symm.trans (below_at hr e')
  have pass:∀(i:Nat) (x:List Int×Value) (n0:Nat),xs[i]? = some x→x.1=k→n≤n0→t.place[i]? = some (pr t.mask (tuH prog w k) n0).j→m≤n0:=fun i x n0 hi e a b=>Nat.le_of_not_lt fun q=>by
   obtain⟨i',e1,e2⟩:=hm2 n0 a q;obtain rfl:=uni b e1;obtain⟨y,e3,e4,_⟩:=at_ b;rw [hi]at e3;cases e3;exact e2 (by rw [e4,e])
  have m_le:m≤ms:=Nat.le_of_not_lt fun q=>by
   obtain⟨i',e1,_⟩:=hm2 ms hn q;rw [←Array.getElem?_toList]at e1;exact hms (List.mem_of_getElem? e1)
  unfold setSearchFrom;refine wpAny_bind (wpAny_setState_of ho rfl T.fits ?_);dsimp only;unfold gaveWay;rw [qhd T.good.ma];simp only [Bool.false_eq_true,if_false];rw [hst];show wpAny _ _ (match t.probe (fun i=>(((xs.map (ent (tuH prog w))).toArray[i]?).map (·.1)).getD 0) (tuH prog w k) (pr t.mask (tuH prog w k) n)with|some met=>_|x=>_) _ _ _;rcases hm3 with ⟨c1,c2⟩|⟨i,c1,c2,c3⟩
  ·have:m=ms:=Nat.le_antisymm m_le (Nat.le_of_not_lt fun q=>c1 (hoc m q));subst this;rw [show t.probe (fun i=>(((xs.map (ent (tuH prog w))).toArray[i]?).map (·.1)).getD 0) (tuH prog w k) (pr t.mask (tuH prog w k) n)=_ from c2];refine wpAny_pure (h2 fun hm=>?_);obtain⟨x,hx,e⟩:=List.mem_map.mp hm;obtain⟨i,hi⟩:=List.mem_iff_getElem?.mp hx;obtain⟨n0,a,b,c⟩:=h0 i x hi e;have:=pass i x n0 hi e a c;lia
  ·rw [show t.probe (fun i=>(((xs.map (ent (tuH prog w))).toArray[i]?).map (·.1)).getD 0) (tuH prog w k) (pr t.mask (tuH prog w k) n)=_ from c3];dsimp only;obtain⟨x,e1,e2,e3⟩:=at_ c1;have hxm:x∈xs:=List.mem_of_getElem? e1;obtain⟨r2,e4,hk2⟩:=hel x hxm;have nxt:wpAny (model prog w) A (do
    let some (_,y):=(xs.map (ent (tuH prog w))).toArray[i]? |unsupported "internal:set-entry"
    let equal ←holding [y] (eqBool y (.ref r))
    let (es',_,t') ←setState a
    if true&&equal then return .there none
    let some same:=t'.sameMemory t.moves t.mask|unsupported "set.changed-during-lookup:is-the-new-block-at-the-old-address"
    let still ←match (if same then t'.slot (pr t.mask (tuH prog w k) m).j else .empty)with
     | .live i'=>match es'[i']? with
      |some (_,y')=>do pure (if ←isSame y' y then some i' else none)
      |none=>pure none
     |_=>pure none
    match still with
    |none=>rule "set.search.anew";setSearchFrom a (.ref r) (tuH prog w k) true fuel none
    |some i'=>if equal then return .there (some i')else setSearchFrom a (.ref r) (tuH prog w k) true fuel (some (pr t.mask (tuH prog w k) (m+1)))) Q E s:=by
    rw [e3];dsimp only;rw [e4];refine wpAny_bind (wpAny_holding (wpAny_eqBool_tuple hu hk2 hk ?_));refine wpAny_bind (wpAny_setState_of ho rfl T.fits ?_);dsimp only;by_cases hq:x.1=k
    ·rw [decide_eq_true hq];simp only [Bool.and_self,if_true];exact wpAny_pure (h1 (List.mem_map.mpr ⟨x,hxm,hq⟩))
    ·rw [decide_eq_false hq];simp only [Bool.and_false,Bool.false_eq_true,if_false];have sm:t.sameMemory t.moves t.mask=some true:=by unfold sameMemory;simp
     rw [sm];dsimp only;simp only [if_true];rw [qjd hr c1];dsimp only;rw [e3];dsimp only;rw [e4];refine wpAny_bind ?_;show wpAny _ _ (if (r2==r2)=true then _ else _) _ _ _;rw [if_pos (by simp)];refine wpAny_pure ?_;refine wpAny_bind (wpAny_pure ?_);simp only [if_true];have m_lt:m<ms:=Nat.lt_of_le_of_ne m_le fun e=>hms (by rw [←e];rw [←Array.getElem?_toList]at c1;exact List.mem_of_getElem? c1)
     refine ih (m+1) fuel (some (pr t.mask (tuH prog w k) (m+1))) (by lia) (by lia) (by lia) rfl fun i' x' hi' e'=>?_
     obtain⟨n0,a,b,c⟩:=h0 i' x' hi' e';have:=pass i' x' n0 hi' e' a c;refine⟨n0,?_,b,c⟩;rcases Nat.eq_or_lt_of_le this with e|e
     ·subst e;obtain rfl:=uni c1 c;rw [e1]at hi';cases hi';exact absurd e' hq
     ·exact e
   cases hl:t.led with
   |true=>simp only [Bool.not_true,Bool.false_eq_true,if_false];exact nxt
   |false=>
    simp only [Bool.not_false,if_true];refine wpAny_bind (qqv hk (fun y hy=>?_) ?_)
    ·obtain⟨⟨g,y'⟩,hy1,rfl⟩:=List.mem_map.mp hy;simp only [Array.toList_filter,List.mem_filter,List.mem_map]at hy1;obtain⟨⟨z,hz,hz'⟩,_⟩:=hy1;obtain⟨r3,e5,hk3⟩:=hel z hz;cases hz';exact⟨_,r3,e5,hk3⟩
    ·simp only [Bool.false_eq_true,if_false];exact nxt
end
section
variable{prog:Program}{w:World}{A:Around}{E:Value→Shared→Prop}{s:Shared}
theorem qmN{K:Type} [DecidableEq K]{hash:K→Int}{xs:List (K×Value)}{t:SetTable}(T:Tb w hash xs t){i:Nat}{x:K×Value}(hi:xs[i]? = some x){ms:Nat}(hms:(pr t.mask (hash x.1) ms).j∉t.place.toList) :
  ∃n0,n0<ms∧t.place[i]? = some (pr t.mask (hash x.1) n0).j:=by
 have ln:=T.good.len;rw [List.length_map]at ln;have il:=(List.getElem?_eq_some_iff.mp hi).1;have hp:t.place[i]? = some t.place[i]:=Array.getElem?_eq_getElem (by lia);have hz:(t.place[i],hash x.1)∈t.place.toList.zip (xs.map fun x=>hash x.1):=by
  refine List.mem_of_getElem? (i:=i) (List.getElem?_zip_eq_some.mpr ⟨by rw [Array.getElem?_toList];exact hp,by rw [List.getElem?_map,hi];rfl⟩)
 obtain⟨n0,a,b⟩:=T.good.re _ hz;refine⟨n0,?_,by rw [a];exact hp⟩;rcases Nat.lt_trichotomy n0 ms with q|q|q
 ·exact q
 ·subst q;exact absurd (by rw [a];exact Array.mem_toList_iff.mpr (Array.getElem_mem _)) hms
 ·exact absurd (b ms q) hms
theorem qnf{K:Type} [DecidableEq K]{hash:K→Int}{xs:List (K×Value)}{t:SetTable}(T:Tb w hash xs t):(xs.map fun x=>hash x.1).length≤t.mask:=by
 rw [List.length_map];have:=T.few;rcases T.good.ma with h|h|h<;>rw [h]at this ⊢ <;> lia
noncomputable def More{K:Type} [DecidableEq K](xs:List (K×Value))(k:K)(v:Value):List (K×Value):=if k∈xs.map (·.1)then xs else xs++[(k,v)]
theorem qqM{a r:Addr}{xs:List (List Int×Value)}{k:List Int}(hu:A.units<cLine){o:Obj}(ho:s.heap.get? a=some o)(hS:qcy w (tuH prog w) xs o)
  (hel:∀x∈xs,qnk prog w s.heap x.1 x.2) (hk:IsTupleKey (intKind prog w) s.heap k r) (hn:xs.length+1<64) {Q:Bool→Shared→Prop}
  (h:∀b h' ys,Heap.SameBut a s.heap h'→(∃o,h'.get? a=some o∧qcy w (tuH prog w) ys o)→ys.Perm (More xs k (.ref r))→Q b {s with heap:=h'}) :
  wpAny (model prog w) A (setAddHashed a (.ref r) (tuH prog w k)) Q E s:=by
 obtain⟨ep,t,rfl,T⟩:=hS;obtain⟨ms,m1,m2,m3⟩:=qjW T.good (qnf T) (tuH prog w k);unfold setAddHashed;refine wpAny_holding ?_;unfold setAddHashedIn;refine wpAny_bind (wpAny_setState_of ho rfl T.fits ?_);dsimp only;rw [show byScan (.ref r) (xs.map (ent (tuH prog w))).toArray=false by simp [byScan,Value.scannable]];simp only [Bool.false_eq_true,if_false];have e:s={s with heap:=s.heap}:=by cases s;rfl
 refine wpAny_bind ?_;unfold setSearch;refine search hu ho T hel hk m2 m3 (fun hm=>?_) (fun hm=>?_) ms 0 100000 none (by lia) (Nat.zero_le _) (by have:=T.good.ma;unfold turns at m1;rcases this with q|q|q<;>rw [q]at m1<;>lia) rfl fun i x hi e=>?_
 ·dsimp only;refine wpAny_pure ?_;have:=h false s.heap xs (Heap.SameBut.refl a s.heap) ⟨_,ho,ep,t,rfl,T⟩ (by rw [More,if_pos hm]);rw [e];exact this
 ·dsimp only;refine wpAny_bind (wpAny_setState_of ho rfl T.fits ?_);dsimp only;obtain⟨p,e1,st⟩:=stored (Q:=Q) (E:=E) (A:=A) (prog:=prog) (v:=.ref r) ho T m2 ⟨ms,rfl,m3⟩ hm hn fun h' ys a b c=>h true h' ys a b (by rw [More,if_neg hm];exact c)
  rw [e1];dsimp only;rw [T.plain];simp only [if_true];refine wpAny_bind (byValue hk ?_);simp only [if_true];have et:({mask:=t.mask,place:=insertAt t.place p (pr t.mask (tuH prog w k) ms).j,dummies:=t.dummies,finger:=t.finger,led:=t.led,moves:=t.moves,plain:=true}:SetTable)={t with place:=insertAt t.place p (pr t.mask (tuH prog w k) ms).j}:=by rw [←T.plain]
  first|exact st|(rw [et];exact st)
 ·subst e;obtain⟨n0,a,b⟩:=qmN T hi m2;exact⟨n0,Nat.zero_le _,a,b⟩
end
structure Kd(prog:Program)(w:World)(K:Type) [DecidableEq K] where
 hash:K→Int
 el:Heap→K→Value→Prop
 grow:∀{h h':Heap}{k:K}{v:Value},el h k v→(∀b o,h.get? b=some o→h'.get? b=some o)→el h' k v
 room:Around→Prop
 pyHash:∀{A:Around}{E:Value→Shared→Prop}{s:Shared}{k:K}{v:Value}{Q:Int→Shared→Prop},room A→el s.heap k v→(∀tk,s.toks≤tk→Q (hash k) {s with toks:=tk})→wpAny (model prog w) A (pyHash v) Q E s
 add:∀{A:Around}{E:Value→Shared→Prop}{s:Shared}{a:Addr}{xs:List (K×Value)}{k:K}{v:Value}{o:Obj}{Q:Bool→Shared→Prop},room A→s.heap.get? a=some o→qcy w hash xs o →
  (∀x∈xs,el s.heap x.1 x.2)→el s.heap k v→xs.length+1<64 →
  (∀b h' ys,Heap.SameBut a s.heap h'→(∃o,h'.get? a=some o∧qcy w hash ys o)→ys.Perm (More xs k v)→Q b {s with heap:=h'})→wpAny (model prog w) A (setAddHashed a v (hash k)) Q E s
noncomputable def tuK(prog:Program)(w:World):Kd prog w (List Int) where
 hash:=tuH prog w
 el:=qnk prog w
 grow:=fun⟨r,e,o,items,n,ho,x⟩ g=>⟨r,e,o,items,n,g _ _ ho,x⟩
 room:=fun A=>A.units<cLine
 pyHash:=fun hu ⟨r,e,hk⟩ h=>by subst e;exact wpAny_pyHash_tuple hu hk (h _ (by lia))
 add:=fun hu ho hS hel ⟨r,e,hk⟩ hn h=>by subst e;exact qqM hu ho hS hel hk hn h
section
variable{prog:Program}{w:World}{K:Type} [DecidableEq K](D:Kd prog w K)
noncomputable def Holds(h0 h:Heap)(a:Addr)(keys:Nat→K)(i:Nat):Prop:=∃o xs,h.get? a=some o∧qcy w D.hash xs o∧(∀x∈xs,D.el h0 x.1 x.2)∧(∀k,k∈xs.map (·.1)↔∃j,j<i∧keys j=k)∧xs.length≤i
variable{D}
variable{A:Around}{R:Result→Shared→Prop}{I:Addr}{fp wr:List Addr}{G:Array GenState→Array GenState→Prop}{n:Nat}{P:Nat→Value→Prop}{St:Nat→Shared→Prop}
theorem loop(W:WalksS prog w A.in1 I fp wr G n P St)(hu:D.room A.in1)(S:Addr)(hSf:S∉fp){h0:Heap}(hS0:h0.get? S=none)(hwr:∀b∈wr,h0.get? b=none)
  (keys:Nat→K) (hval:∀i v,P i v→D.el h0 (keys i) v) (hb:n<64) :
  ∀(k i:Nat) (s:Shared),n-i=k→i≤n→St i s→(∀b o,h0.get? b=some o→s.heap.get? b=some o)→Holds D h0 s.heap S keys i →
   (∀s',Moved (S::wr) G s s'→Holds D h0 s'.heap S keys n→R (.ok (.ret .none)) s') →
   codeAny (model prog w) A (.builtin "set.update.loop" ⟨[.ref S,.ref I],[]⟩) R s:=by
 have hSw:S∉wr:=fun h=>hSf (W.sub _ h)
 have hsub:∀b∈wr,b∈S::wr:=fun b hb=>List.mem_cons_of_mem _ hb
 intro k
 induction k with
 |zero=>
  intro i s hk hi hst hk0 hS hR;have hin:i=n:=by lia
  subst hin;refine codeAny_builtin PyProof.Rows.F.entry_set_update_loop ?_;rw [Around.under_plainId PyProof.Rows.F.plain_set_update_loop _];show wpAny _ A.in1 (pyNext (.ref I)>>=_) _ _ s;refine wpAny_bind (W.done s _ _ hst fun s' hm=>?_);show wpAny _ A.in1 (ret Value.none) _ _ s';obtain⟨o,xs,ho,r⟩:=hS;exact wpAny_pure (hR s' (hm.mono hsub) ⟨o,xs,hm.heap S _ hSw ho,r⟩)
 |succ k ih=>
  intro i s hk hi hst hk0 hS hR;have hlt:i<n:=by lia
  refine codeAny_builtin PyProof.Rows.F.entry_set_update_loop ?_;rw [Around.under_plainId PyProof.Rows.F.plain_set_update_loop _];show wpAny _ A.in1 (pyNext (.ref I)>>=_) _ _ s;refine wpAny_bind (W.item i s _ _ hlt hst fun v s' hP hst' hm=>?_);have hel:=hval i v hP;obtain⟨o,xs,ho,r1,r2,r3,r4⟩:=hS;have hk1:∀b o,h0.get? b=some o→s'.heap.get? b=some o:=fun b o e=>hm.heap b o (fun q=>by rw [hwr b q]at e;cases e) (hk0 b o e)
  have ho':=hm.heap S _ hSw ho;show wpAny _ A.in1 (holding [v] (setAdd S v)>>=_) _ _ s';refine wpAny_bind (wpAny_holding ?_);unfold setAdd;refine wpAny_holding ?_;refine wpAny_bind (D.pyHash hu (D.grow hel hk1) fun tk htk=>?_);refine D.add (s:={s' with toks:=tk}) hu ho' r1 (fun x hx=>D.grow (r2 x hx) hk1) (D.grow hel hk1) (by lia) fun b h' ys sb hS2 pm=>?_
  have hk2:∀b o,h0.get? b=some o→h'.get? b=some o:=fun b o e=>by
   rw [sb.2 b (fun h:b=S=>by rw [h,hS0]at e;cases e)];exact hk1 b o e
  have hS3:Holds D h0 h' S keys (i+1):=by
   obtain⟨o2,ho2,si⟩:=hS2;refine⟨o2,ys,ho2,si,fun x hx=>?_,fun k'=>?_,?_⟩
   ·have:=pm.mem_iff.mp hx;unfold More at this;split at this
    ·exact r2 x this
    ·rcases List.mem_append.mp this with q|q
     ·exact r2 x q
     ·rw [List.mem_singleton.mp q];exact hel
   ·rw [(pm.map (·.1)).mem_iff];have:(∃j,j<i+1∧keys j=k')↔(∃j,j<i∧keys j=k')∨keys i=k':=by
     constructor
     ·rintro⟨j,a,b⟩;rcases Nat.lt_succ_iff_lt_or_eq.mp a with q|q
      ·exact .inl ⟨j,q,b⟩
      ·subst q;exact .inr b
     ·rintro(⟨j,a,b⟩|b)
      ·exact⟨j,by lia,b⟩
      ·exact⟨i,by lia,b⟩
    rw [this,←r3 k'];unfold More;split
    ·rename_i q
     exact⟨.inl,fun h=>h.elim id fun e=>e▸q⟩
    ·rw [List.map_append,List.mem_append];simp only [List.map_cons,List.map_nil,List.mem_singleton];exact⟨fun h=>h.imp id Eq.symm,fun h=>h.imp id Eq.symm⟩
   ·rw [pm.length_eq];unfold More;split
    ·lia
    ·simp;lia
  refine wpAny_pure ⟨plainId_quiet PyProof.Rows.F.plain_set_update_loop _,ih (i+1) _ (by lia) hlt (W.frame _ s' _ _ hst' htk fun b hb o e=>?_) hk2 hS3 fun s'' hm'' hS''=>?_⟩
  ·rw [sb.2 b (fun h:b=S=>hSf (by rw [←h];exact hb))];exact e
  ·refine hR s'' (Moved.trans W.gtrans ((hm.mono hsub).then_heap htk fun b o hb e=>?_) hm'') hS'';rw [sb.2 b (fun h:b=S=>hb (by rw [h];exact List.mem_cons_self))];exact e
end
abbrev qau(w:World):Obj:={cls:=.type "set",dict:=none,data:=.set #[] 0 (.fresh 0 0 (!w.params.followText "set-order"))}
section
variable{prog:Program}{w:World}{A:Around}{E:Value→Shared→Prop}{s:Shared}{K:Type} [DecidableEq K]{D:Kd prog w K}
theorem qjh(a:Value){Q₁:Value→Shared→Prop}(h:Q₁ (.ref s.heap.objs.size) {s with heap:=s.heap.push (qau w)}) :
  codeAny (model prog w) A (.call (.builtin "set.__new__") ⟨[.type "set",a],[]⟩) (wants Q₁ E) s:=by
 refine codeAny_of_tree ?_;show wpAny _ A.in1 (do checkBuiltinCall "set.__new__" ⟨[.type "set",a],[]⟩;again (.builtin "set.__new__" ⟨[.type "set",a],[]⟩)) _ _ s;refine wpAny_bind (wpAny_of_eq (F.newCall_set_1 a) (wpAny_pure ⟨plainId_quiet F.plain_set_new _,codeAny_builtin F.entry_set_new ?_⟩));rw [Around.under_plainId F.plain_set_new _];unfold Builtin.«set.__new__» Builtin.Frozenset.newClass;have hsub:=sub_set_self;obtain⟨hp,g,d,tk,os⟩:=s;dsimp only
 wp_walk
 refine wpAny_askSetting (wpAny_pure ?_);dsimp only;simp only [newObj];refine wpAny_bind (wpAny_alloc (wpAny_pure ?_));exact wpAny_pure h
theorem qqc:qcy w D.hash [] (qau w):=⟨0,_,rfl,Tb.nil 0 0⟩
theorem qgF(hu:D.room A.in1.in1.in1){I:Addr}{fp wr:List Addr}{items:Array Value}{St:Nat→Heap→Prop}(W:Walks prog w A.in1.in1.in1 I fp wr items.size (fun i v=>items[i]? = some v) St){h1:Heap}
  (keys:Nat→K) (hval:∀(i:Nat) v,items[i]? = some v→D.el s.heap (keys i) v) (hb:items.size<64) (hst:St 0 h1) (hS:h1.get? s.heap.objs.size=some (qau w)) (hold:∀b o,s.heap.get? b=some o→h1.get? b=some o)
  (hSf:s.heap.objs.size∉fp) (hwr:∀b∈wr,s.heap.objs.size≤b) {R:Result→Shared→Prop}
  (h:∀(h':Heap) (tk:Nat),Holds D s.heap h' s.heap.objs.size keys items.size→(∀b o,b<s.heap.objs.size→s.heap.get? b=some o→h'.get? b=some o)→R (.ok (.ret .none)) {s with heap:=h',toks:=tk}) :
  codeAny (model prog w) A.in1.in1 (.builtin "set.update.loop" ⟨[.ref s.heap.objs.size,.ref I],[]⟩) R {s with heap:=h1}:=by
 have out:∀b,s.heap.objs.size≤b→s.heap.get? b=none:=fun b hb=>by
  cases q:s.heap.get? b with
  |none=>rfl
  |some o=>exact absurd (Heap.lt_size q) (Nat.not_lt.mpr hb)
 refine loop W.toS hu s.heap.objs.size hSf (h0:=s.heap) (out _ (Nat.le_refl _)) (fun b hb=>out b (hwr b hb)) keys hval hb (items.size-0) 0 _ (by lia) (Nat.zero_le _) hst hold ?_ fun s' hm hS'=>?_
 ·exact⟨_,[],hS,qqc,(fun x hx=>absurd hx (List.not_mem_nil)),(fun k=>by simp),Nat.le_refl _⟩
 ·obtain⟨h',g',d',tk',os'⟩:=s';have eg:g'=s.gens:=hm.gens;have ed:d'=s.drawn:=hm.drawn;have eo:os'=s.os:=hm.os;subst eg;subst ed;subst eo;refine h h' tk' hS' fun b o hb e=>hm.heap b o (fun q=>?_) (hold b o e)
  rcases List.mem_cons.mp q with q|q
  ·rw [q]at hb;exact Nat.lt_irrefl _ hb
  ·exact absurd hb (Nat.not_lt.mpr (hwr b q))
theorem sub_list_set:isSubtype (.type "list") (.type "set")=pure false:=by rw [isSubtype_type];kernel_rfl
theorem sub_list_frozenset:isSubtype (.type "list") (.type "frozenset")=pure false:=by rw [isSubtype_type];kernel_rfl
theorem call_set_list{l:Addr}{items:Array Value}{Q:Value→Shared→Prop}(hh:A.handled=none)(hu:D.room A.in1.in1.in1)(hl:s.heap.IsList l items)(keys:Nat→K)(hval:∀(i:Nat) v,items[i]? = some v→D.el s.heap (keys i) v)(hb:items.size<64)
  (h:∀(h':Heap) (tk:Nat),Holds D s.heap h' s.heap.objs.size keys items.size→(∀b o,b<s.heap.objs.size→s.heap.get? b=some o→h'.get? b=some o)→Q (.ref s.heap.objs.size) {s with heap:=h',toks:=tk}) :
  wpAny (model prog w) A (call (.type "set") [.ref l]) Q E s:=by
 obtain⟨c,tl,hmro⟩:=F.called_set.mro;have hmade:=F.called_set.made;have hsub:=F.called_set.sub;refine wpAny_call (codeAny_of_tree ?_);show wpAny _ _ (callAny (.type "set") _) _ _ _;refine wpAny_pure ⟨Code.quiet_builtin _ (by decide +kernel),codeAny_builtin F.entry_type_call ?_⟩;rw [Around.under_plain (weight_type_call_type "set" [.ref l] []) rfl];have h1:=F.called_set.notType;have h2:=F.called_set.canCreate;have hct:=F.typeCall_set_1 (.ref l)
 repeat (any_goals (first|assumption|wp_step))
 refine codeAny_mono (qjh (.ref l) (E:=E) (Q₁:=fun obj s₁=>obj=.ref s.heap.objs.size∧s₁={s with heap:=s.heap.push (qau w)}) ⟨rfl,rfl⟩) fun r s₁ hr=>?_
 cases r with
 |error e=>exact hr
 |ok fl=>
  cases fl with
  |ret obj=>
   obtain⟨rfl,rfl⟩:=hr;have hS:(s.heap.push (qau w)).get? s.heap.objs.size=some (qau w):=Heap.get?_push_size _ rfl;have hT:Shared.TypeIs {s with heap:=s.heap.push (qau w)} (.ref s.heap.objs.size) "set":=⟨_,hS,rfl⟩
   have hli:=F.called_set.init.lookup;have hbi:=F.called_set.init.bind (.ref s.heap.objs.size)
   repeat (any_goals (first|assumption|wp_step))
   refine codeAny_mono (codeAny_call_builtin (R:=wants (fun r s₂=>r=.none∧∃h' tk,s₂={s with heap:=h',toks:=tk}∧Holds D s.heap h' s.heap.objs.size keys items.size ∧
     (∀b o,b<s.heap.objs.size→s.heap.get? b=some o→h'.get? b=some o)) E) F.called_set.init.plain F.entry_set_init (check_set_init_1 hT ?_)) fun r₂ s₂ hr₂=>?_
   ·obtain⟨ol,hol,hcl,nl,hdl⟩:=hl;obtain⟨ocls,odict,odata,oslots⟩:=ol;simp only at hcl hdl;subst hcl;subst hdl;have hol':(s.heap.push (qau w)).get? l=some {cls:=.type "list",dict:=odict,data:=.seq items nl,slots:=oslots}:=Heap.get?_push_of_some _ hol;have hsls:=sub_list_set;have hslf:=sub_list_frozenset;have hne:(Value.type "list" == Value.type "dict")=false:=by decide
    have hl1:(s.heap.push (qau w)).IsList l items:=⟨_,hol',rfl,nl,rfl⟩
    unfold Builtin.«set.__init__» noKeywords Builtin.Frozenset.updateFrom;generalize hPI:pyIter=PI
    wp_walk
    subst hPI;refine wpAny_pyIter_list hl1 ?_;refine wpAny_bind (wpAny_runValue ?_);have hlS:l<s.heap.objs.size:=Heap.lt_size hol;have hh3:A.in1.in1.in1.handled=none:=by simp [hh]
    have hneI:l≠(s.heap.push (qau w)).objs.size:=by
     rw [Heap.size_push];exact Nat.ne_of_lt (Nat.lt_succ_of_lt hlS)
    have hSf:s.heap.objs.size∉[(s.heap.push (qau w)).objs.size,l]:=by
     rw [Heap.size_push];simp only [List.mem_cons,List.mem_singleton,List.not_mem_nil,or_false,not_or];exact⟨Nat.ne_of_lt (Nat.lt_succ_self _),Nat.ne_of_gt hlS⟩
    refine qgF hu (Walks.list hh3 _ l hneI items) keys hval hb ⟨⟨_,Heap.get?_push_size _ rfl,rfl,rfl⟩,(hl1.push _)⟩ (Heap.get?_push_of_some _ hS) (fun b o e=>Heap.get?_push_of_some _ (Heap.get?_push_of_some _ e)) hSf (fun b hb=>by rw [List.mem_singleton.mp hb,Heap.size_push];exact Nat.le_succ _) fun h' tk hH hk=>?_
    show wpAny _ _ _ _ _ _;refine wpAny_pure ?_;show wpAny _ _ (ret Value.none) _ _ _;exact wpAny_pure ⟨rfl,h',tk,rfl,hH,hk⟩
   ·cases r₂ with
    |error e=>exact hr₂
    |ok fl₂=>
     cases fl₂ with
     |ret r=>
      obtain⟨rfl,h',tk,rfl,hS',hk'⟩:=hr₂
      repeat (any_goals (first|assumption|wp_step))
      exact h _ _ hS' hk'
     |_=>exact hr₂.elim
  |_=>exact hr.elim
theorem sub_tuple_set:isSubtype (.type "tuple") (.type "set")=pure false:=by rw [isSubtype_type];kernel_rfl
theorem sub_tuple_frozenset:isSubtype (.type "tuple") (.type "frozenset")=pure false:=by rw [isSubtype_type];kernel_rfl
theorem qga{l:Addr}{items:Array Value}{Q:Value→Shared→Prop}(hh:A.handled=none)(hu:D.room A.in1.in1.in1)(hl:s.heap.IsTuple l items)(keys:Nat→K)(hval:∀(i:Nat) v,items[i]? = some v→D.el s.heap (keys i) v)(hb:items.size<64)
  (h:∀(h':Heap) (tk:Nat),Holds D s.heap h' s.heap.objs.size keys items.size→(∀b o,b<s.heap.objs.size→s.heap.get? b=some o→h'.get? b=some o)→Q (.ref s.heap.objs.size) {s with heap:=h',toks:=tk}) :
  wpAny (model prog w) A (call (.type "set") [.ref l]) Q E s:=by
 obtain⟨c,tl,hmro⟩:=F.called_set.mro;have hmade:=F.called_set.made;have hsub:=F.called_set.sub;refine wpAny_call (codeAny_of_tree ?_);show wpAny _ _ (callAny (.type "set") _) _ _ _;refine wpAny_pure ⟨Code.quiet_builtin _ (by decide +kernel),codeAny_builtin F.entry_type_call ?_⟩;rw [Around.under_plain (weight_type_call_type "set" [.ref l] []) rfl];have h1:=F.called_set.notType;have h2:=F.called_set.canCreate;have hct:=F.typeCall_set_1 (.ref l)
 repeat (any_goals (first|assumption|wp_step))
 refine codeAny_mono (qjh (.ref l) (E:=E) (Q₁:=fun obj s₁=>obj=.ref s.heap.objs.size∧s₁={s with heap:=s.heap.push (qau w)}) ⟨rfl,rfl⟩) fun r s₁ hr=>?_
 cases r with
 |error e=>exact hr
 |ok fl=>
  cases fl with
  |ret obj=>
   obtain⟨rfl,rfl⟩:=hr;have hS:(s.heap.push (qau w)).get? s.heap.objs.size=some (qau w):=Heap.get?_push_size _ rfl;have hT:Shared.TypeIs {s with heap:=s.heap.push (qau w)} (.ref s.heap.objs.size) "set":=⟨_,hS,rfl⟩
   have hli:=F.called_set.init.lookup;have hbi:=F.called_set.init.bind (.ref s.heap.objs.size)
   repeat (any_goals (first|assumption|wp_step))
   refine codeAny_mono (codeAny_call_builtin (R:=wants (fun r s₂=>r=.none∧∃h' tk,s₂={s with heap:=h',toks:=tk}∧Holds D s.heap h' s.heap.objs.size keys items.size ∧
     (∀b o,b<s.heap.objs.size→s.heap.get? b=some o→h'.get? b=some o)) E) F.called_set.init.plain F.entry_set_init (check_set_init_1 hT ?_)) fun r₂ s₂ hr₂=>?_
   ·obtain⟨ol,hol,hcl,nl,hdl⟩:=hl;obtain⟨ocls,odict,odata,oslots⟩:=ol;simp only at hcl hdl;subst hcl;subst hdl;have hol':(s.heap.push (qau w)).get? l=some {cls:=.type "tuple",dict:=odict,data:=.seq items nl,slots:=oslots}:=Heap.get?_push_of_some _ hol;have hsls:=sub_tuple_set;have hslf:=sub_tuple_frozenset;have hne:(Value.type "tuple" == Value.type "dict")=false:=by decide
    have hl1:(s.heap.push (qau w)).IsTuple l items:=⟨_,hol',rfl,nl,rfl⟩
    unfold Builtin.«set.__init__» noKeywords Builtin.Frozenset.updateFrom;generalize hPI:pyIter=PI
    wp_walk
    subst hPI;refine wpAny_pyIter_tuple hl1 ?_;refine wpAny_bind (wpAny_runValue ?_);have hlS:l<s.heap.objs.size:=Heap.lt_size hol;have hh3:A.in1.in1.in1.handled=none:=by simp [hh]
    have hneI:l≠(s.heap.push (qau w)).objs.size:=by
     rw [Heap.size_push];exact Nat.ne_of_lt (Nat.lt_succ_of_lt hlS)
    have hSf:s.heap.objs.size∉[(s.heap.push (qau w)).objs.size,l]:=by
     rw [Heap.size_push];simp only [List.mem_cons,List.mem_singleton,List.not_mem_nil,or_false,not_or];exact⟨Nat.ne_of_lt (Nat.lt_succ_self _),Nat.ne_of_gt hlS⟩
    refine qgF hu (Walks.tuple hh3 _ l hneI items) keys hval hb ⟨⟨_,Heap.get?_push_size _ rfl,rfl,rfl⟩,(hl1.push _)⟩ (Heap.get?_push_of_some _ hS) (fun b o e=>Heap.get?_push_of_some _ (Heap.get?_push_of_some _ e)) hSf (fun b hb=>by rw [List.mem_singleton.mp hb,Heap.size_push];exact Nat.le_succ _) fun h' tk hH hk=>?_
    show wpAny _ _ _ _ _ _;refine wpAny_pure ?_;show wpAny _ _ (ret Value.none) _ _ _;exact wpAny_pure ⟨rfl,h',tk,rfl,hH,hk⟩
   ·cases r₂ with
    |error e=>exact hr₂
    |ok fl₂=>
     cases fl₂ with
     |ret r=>
      obtain⟨rfl,h',tk,rfl,hS',hk'⟩:=hr₂
      repeat (any_goals (first|assumption|wp_step))
      exact h _ _ hS' hk'
     |_=>exact hr₂.elim
  |_=>exact hr.elim
end
theorem qhZ:Manifest.owners.lookup (String.ofList ['r','o','t','a','r','e','t','i','_','t','e','s'].reverse)=some Manifest.sig_set_iterator:=by kernel_rfl
theorem qbv:Slot "set_iterator" "__next__" "set_iterator.__next__":=
 .of (owner:="set_iterator") (n:="__next__") (by rw [typeLookup_type,builtinLookup_eq_fast];kernel_rfl) (by decide +kernel) (by decide +kernel) (by decide +kernel)
  (by first|exact .inl (by decide +kernel)|exact .inr (by decide +kernel)) (by rw [isSubtype_type];kernel_rfl)
theorem qdC:entryFor table "set_iterator.__next__" = some Builtin.«set_iterator.__next__»:=entryFor_of_tree (by kernel_rfl)
theorem qdJ(a:Value):argsOk "set_iterator.__next__" ⟨[a],[]⟩:=by
 unfold argsOk;rw [signature?_of (id:="set_iterator.__next__") (n:=['_','_','t','x','e','n','_','_']) (o:=['r','o','t','a','r','e','t','i','_','t','e','s']) (by kernel_rfl) qhZ];kernel_rfl
theorem qdF:Slot "set_iterator" "__iter__" "set_iterator.__iter__":=
 .of (owner:="set_iterator") (n:="__iter__") (by rw [typeLookup_type,builtinLookup_eq_fast];kernel_rfl) (by decide +kernel) (by decide +kernel) (by decide +kernel)
  (by first|exact .inl (by decide +kernel)|exact .inr (by decide +kernel)) (by rw [isSubtype_type];kernel_rfl)
theorem qgQ:entryFor table "set_iterator.__iter__" = some Builtin.«dict_keyiterator.__iter__»:=entryFor_alias (id':="dict_keyiterator.__iter__") (by kernel_rfl) (by first|rfl|decide +kernel) (by decide +kernel) (by kernel_rfl)
theorem qib(a:Value):argsOk "set_iterator.__iter__" ⟨[a],[]⟩:=by
 unfold argsOk;rw [signature?_of (id:="set_iterator.__iter__") (n:=['_','_','r','e','t','i','_','_']) (o:=['r','o','t','a','r','e','t','i','_','t','e','s']) (by kernel_rfl) qhZ];kernel_rfl
theorem qfU:entryFor table "set.__iter__" = some Builtin.«frozenset.__iter__»:=entryFor_alias (id':="frozenset.__iter__") (by kernel_rfl) (by first|rfl|decide +kernel) (by decide +kernel) (by kernel_rfl)
noncomputable def qcL(w:World)(a:Addr)(ep:Nat)(es:List (Int×Value)):List (Int×Value):=if w.params.followText "set-order" = true then (pickOrder (w.params.setOrder a ep) es.toArray).toList else es
theorem qfl{α:Type}:∀{l:List α}{i:Nat} (h:i<l.length),(l[i]::l.eraseIdx i).Perm l
 |_::_,0,_=>.refl _
 |a::l,i+1,h=>by
  rw [List.eraseIdx_cons_succ,List.getElem_cons_succ];exact(List.Perm.swap _ _ _).trans ((qfl (by simpa using h)).cons a)
theorem qgE{α:Type}(next:Nat→Nat):∀(fuel k:Nat) (left:List α) (out:Array α),left.length=fuel→(pickOrder.go next fuel k left out).toList.Perm (out.toList++left)
 | 0,k,left,out,h=>by rw [pickOrder.go,List.length_eq_zero_iff.mp h,List.append_nil]
 |fuel+1,k,left,out,h=>by
  have hl:next k%left.length<left.length:=Nat.mod_lt _ (by lia);rw [pickOrder.go,List.getElem?_eq_getElem hl];dsimp only;refine(qgE next fuel (k+1) _ _ (by rw [List.length_eraseIdx_of_lt hl];lia)).trans ?_;rw [Array.toList_push,List.append_assoc];refine List.Perm.append_left _ ?_;rw [List.singleton_append];exact qfl hl
theorem qcq(w:World)(a:Addr)(ep:Nat)(es:List (Int×Value)):(qcL w a ep es).Perm es:=by
 unfold qcL;split
 ·have:=qgE (w.params.setOrder a ep) es.toArray.size 0 es.toArray.toList #[] (by simp);simp only [List.nil_append]at this;exact this
 ·exact .refl _
section
variable{prog:Program}{w:World}{A:Around}{E:Value→Shared→Prop}{s:Shared}{K:Type} [DecidableEq K]{hash:K→Int}
noncomputable def itO(slot i:Nat)(a:Addr)(n ep:Nat):Obj:={cls:=.type "set_iterator",data:=.fields #[.int slot 0,.int i 0,.ref a,.int n 0,.int ep 0]}
theorem qnG{a:Addr}{xs:List (K×Value)}{ep:Nat}{t:SetTable}(ho:s.heap.get? a=some (qbN (xs.map (ent hash)) ep t))(T:Tb w hash xs t){Q:Value→Shared→Prop}
  (h:Q (.ref s.heap.objs.size) {s with heap:=s.heap.push (itO 0 0 a xs.length ep)}):wpAny (model prog w) A (pyIter (.ref a)) Q E s:=by
 have hT:s.TypeIs (.ref a) "set":=⟨_,ho,rfl⟩
 refine wpAny_pyIter_slot hT PySem.F.slot_set_iter (wpAny_call_entry PySem.F.slot_set_iter hT qfU ?_ (PySem.F.args_set_iter_1 _));unfold Builtin.«frozenset.__iter__» Builtin.Frozenset.slot0 slotArgs;simp only [List.isEmpty_nil,Bool.not_true,Bool.false_eq_true,↓reduceIte,bind_assoc,List.length_nil,bne_self_eq_false];unfold Builtin.Frozenset.addrOf Builtin.Frozenset.sizeOf;refine wpAny_bind (wpAny_pure ?_)
 try dsimp only
 refine wpAny_bind (wpAny_pure ?_);refine wpAny_bind (wpAny_bind (wpAny_setEntries_of ho rfl T.fits (wpAny_pure ?_)));refine wpAny_bind ?_;unfold setDrawn;refine wpAny_bind (wpAny_setState_of ho rfl T.fits ?_);unfold setsByText;refine wpAny_bind (wpAny_bind (wpAny_askSetting (wpAny_pure ?_)));refine wpAny_pure ?_;show wpAny _ _ (if (!(w.params.followText "set-order")&&(!t.plain&&decide ((xs.map (ent hash)).toArray.size>1)))=true then _ else _) _ _ _;rw [T.plain];simp only [Bool.not_true,Bool.false_and,Bool.and_false,Bool.false_eq_true,if_false];refine wpAny_bind (wpAny_pure ?_);refine wpAny_bind (wpAny_setEpoch_of ho rfl T.fits ?_);refine wpAny_bind (wpAny_newObj_type (wpAny_pure ⟨_,rfl,"set_iterator",_,⟨_,Heap.get?_push_size _ rfl,rfl⟩,qbv.lookup,?_⟩));have e:(xs.map (ent hash)).toArray.size=xs.length:=by simp
 rw [e];exact h
end
section
variable{prog:Program}{w:World}{A:Around}{E:Value→Shared→Prop}{s:Shared}{K:Type} [DecidableEq K]{hash:K→Int}
theorem qjM{xs:Array Nat}(hr:Ri xs):below xs 0=0:=by
 obtain⟨a,b⟩:=qbY hr 0;refine Nat.le_zero.mp (Nat.le_of_not_lt fun q=>?_);have:=(b 0 xs[0] (Array.getElem?_eq_getElem (by lia))).mp q;lia
theorem qjU{xs:Array Nat}(hr:Ri xs){i x:Nat}(h:xs[i]? = some x):below xs (x+1)=i+1:=by
 obtain⟨a,b⟩:=qbY hr (x+1);have h1:=(b i x h).mpr (by lia);refine Nat.le_antisymm (Nat.le_of_not_lt fun q=>?_) h1;have e:xs[i+1]? = some xs[i+1]:=Array.getElem?_eq_getElem (by lia);have:=(b _ _ e).mp q;have:=hr i (i+1) x _ (by lia) h e;lia
theorem qiQ{a:Addr}{xs:List (K×Value)}{ep slot i:Nat}{t:SetTable}(ho:s.heap.get? a=some (qbN (xs.map (ent hash)) ep t))(T:Tb w hash xs t)(hs:w.params.followText "set-order" = false→below t.place slot=i)
  {Q:Option (Value×Nat)→Shared→Prop}
  (h:∀slot',(w.params.followText "set-order" = false→i<xs.length→below t.place slot'=i+1)→Q (((qcL w a ep (xs.map (ent hash)))[i]?).map fun e=>(e.2,slot')) s):wpAny (model prog w) A (setNext a slot i ep) Q E s:=by
 have hr:=Ri.of T.good.ri;unfold setNext;refine wpAny_bind (wpAny_setState_of ho rfl T.fits ?_);dsimp only;unfold setsByText;refine wpAny_bind (wpAny_bind (wpAny_askSetting (wpAny_pure ?_)));show wpAny _ _ (if w.params.followText "set-order" = true then _ else _) _ _ _;unfold qcL at h;cases q:w.params.followText "set-order" with
 |true=>
  rw [q]at h;simp only [if_true]at h ⊢;rw [if_neg (by simp)];refine wpAny_bind ?_;unfold setWalk;refine wpAny_bind (wpAny_setState_of ho rfl T.fits ?_);dsimp only;unfold setsByText;refine wpAny_bind (wpAny_bind (wpAny_askSetting (wpAny_pure ?_)));show wpAny _ _ (if w.params.followText "set-order" = true then _ else _) _ _ _;rw [q];simp only [if_true];refine wpAny_bind (wpAny_askSetting (wpAny_pure (wpAny_pure ?_)));have:=h slot (fun e=>by cases e);rw [Array.getElem?_toList]at this;exact this
 |false=>
  rw [q]at h;simp only [Bool.false_eq_true,if_false]at h ⊢;show wpAny _ _ (if (!t.plain&&decide ((xs.map (ent hash)).toArray.size>1))=true then _ else _) _ _ _;rw [T.plain];simp only [Bool.not_true,Bool.false_and,Bool.false_eq_true,if_false];refine wpAny_bind ?_;show wpAny _ _ (if (!t.led && !(xs.map (ent hash)).toArray.isEmpty)=true then _ else _) _ _ _;rw [T.led,q];simp only [Bool.not_false,Bool.not_true,Bool.false_and,Bool.false_eq_true,if_false];refine wpAny_pure ?_;rw [hs q];have ln:=T.good.len;rw [List.length_map]at ln;by_cases hi:i<xs.length
  ·have e1:(xs.map (ent hash)).toArray[i]? = some (ent hash xs[i]):=by simp [hi]
   have e2:t.place[i]? = some t.place[i]:=Array.getElem?_eq_getElem (by lia);rw [e1,e2];refine wpAny_pure ?_;have:=h (t.place[i]+1) fun _ _=>qjU hr e2
   rw [show (xs.map (ent hash))[i]? = some (ent hash xs[i])by simp [hi]]at this;exact this
  ·have e1:(xs.map (ent hash)).toArray[i]? = none:=by simp;lia
   rw [e1];refine wpAny_pure ?_;have:=h 0 fun _ q=>absurd q hi
   rw [show (xs.map (ent hash))[i]? = none by simp;lia]at this;exact this
noncomputable def StI(w:World)(hash:K→Int)(I a:Addr)(xs:List (K×Value))(ep:Nat)(t:SetTable)(i:Nat)(h:Heap):Prop:=
 (∃slot,h.get? I=some (itO slot i a xs.length ep)∧(w.params.followText "set-order" = false→below t.place slot=i))∧h.get? a=some (qbN (xs.map (ent hash)) ep t)
theorem next_item{I a:Addr}(hne:a≠I){xs:List (K×Value)}{ep i:Nat}{t:SetTable}(T:Tb w hash xs t)(st:StI w hash I a xs ep t i s.heap){e:Int×Value}(he:(qcL w a ep (xs.map (ent hash)))[i]? = some e){Q:Option Value→Shared→Prop}
  (hQ:∀h',StI w hash I a xs ep t (i+1) h'→Heap.SameBut I s.heap h'→Q (some e.2) {s with heap:=h'}):wpAny (model prog w) A (pyNext (.ref I)) Q E s:=by
 obtain⟨⟨slot,hI,hs⟩,ho⟩:=st;have hT:s.TypeIs (.ref I) "set_iterator":=⟨_,hI,rfl⟩
 have il:i<xs.length:=by
  have:=(List.getElem?_eq_some_iff.mp he).1;rw [(qcq ..).length_eq,List.length_map]at this;exact this
 unfold pyNext;refine wpAny_bind (wpAny_attempt (wpAny_callSpecial?_slot (name:=Str.ofString "__next__") hT qbv (wpAny_call_entry qbv hT qdC ?_ (qdJ _))));show wpAny _ _ (fieldsOf (.ref I)>>=_) _ _ s;refine wpAny_bind (wpAny_fieldsOf hI rfl ?_);show wpAny _ _ (setEntries a>>=_) _ _ s;refine wpAny_bind (wpAny_setEntries_of ho rfl T.fits ?_);rw [show ((((xs.map (ent hash)).toArray.size:Nat):Int) != ((xs.length:Nat):Int))=false by simp];simp only [Bool.false_eq_true,if_false];show wpAny _ _ (setNext a (Int.toNat ((slot:Nat):Int)) (Int.toNat ((i:Nat):Int)) (Int.toNat ((ep:Nat):Int))>>=_) _ _ s;rw [Int.toNat_natCast,Int.toNat_natCast,Int.toNat_natCast];refine wpAny_bind (qiQ ho T hs fun slot' h1=>?_);rw [he];show wpAny _ _ (setField (.ref I) 0 (rawInt slot')>>=_) _ _ s;refine wpAny_bind (wpAny_setField hI rfl (by simp) ?_);have hI2:(s.heap.update I (Obj.mapFields (·.setIfInBounds 0 (rawInt slot')))).get? I=some (itO slot' i a xs.length ep):=by
  rw [Heap.get?_update_self _ hI (Obj.isFreed_of_fields (Obj.data_mapFields (by rfl) _))];rfl
 refine wpAny_bind (wpAny_setField hI2 rfl (by simp) ?_);have hI3:((s.heap.update I (Obj.mapFields (·.setIfInBounds 0 (rawInt slot')))).update I (Obj.mapFields (·.setIfInBounds 1 (rawInt ((i:Int)+1))))).get? I=some (itO slot' (i+1) a xs.length ep):=by
  rw [Heap.get?_update_self _ hI2 (Obj.isFreed_of_fields (Obj.data_mapFields (by rfl) _))];rfl
 refine wpAny_pure ⟨e.2,rfl,wpAny_pure (hQ _ ⟨⟨slot',hI3,fun q=>h1 q il⟩,?_⟩ ((Heap.SameBut.update ..).trans (Heap.SameBut.update ..)))⟩;rw [Heap.get?_update_other _ _ (Ne.symm hne),Heap.get?_update_other _ _ (Ne.symm hne)];exact ho
theorem next_end{I a:Addr}(hh:A.handled=none){xs:List (K×Value)}{ep:Nat}{t:SetTable}(T:Tb w hash xs t)(st:StI w hash I a xs ep t xs.length s.heap){Q:Option Value→Shared→Prop}
  (hQ:∀h',Heap.ExtBut I s.heap h'→Q none {s with heap:=h'}):wpAny (model prog w) A (pyNext (.ref I)) Q E s:=by
 obtain⟨⟨slot,hI,hs⟩,ho⟩:=st;have hT:s.TypeIs (.ref I) "set_iterator":=⟨_,hI,rfl⟩
 unfold pyNext;refine wpAny_bind (wpAny_attempt (wpAny_callSpecial?_slot (name:=Str.ofString "__next__") hT qbv (wpAny_call_entry qbv hT qdC ?_ (qdJ _))));show wpAny _ _ (fieldsOf (.ref I)>>=_) _ _ s;refine wpAny_bind (wpAny_fieldsOf hI rfl ?_);show wpAny _ _ (setEntries a>>=_) _ _ s;refine wpAny_bind (wpAny_setEntries_of ho rfl T.fits ?_);rw [show ((((xs.map (ent hash)).toArray.size:Nat):Int) != ((xs.length:Nat):Int))=false by simp];simp only [Bool.false_eq_true,if_false];show wpAny _ _ (setNext a (Int.toNat ((slot:Nat):Int)) (Int.toNat ((xs.length:Nat):Int)) (Int.toNat ((ep:Nat):Int))>>=_) _ _ s;rw [Int.toNat_natCast,Int.toNat_natCast,Int.toNat_natCast];refine wpAny_bind (qiQ ho T hs fun slot' h1=>?_);rw [show (qcL w a ep (xs.map (ent hash)))[xs.length]? = none from List.getElem?_eq_none (by rw [(qcq ..).length_eq,List.length_map];exact Nat.le_refl _)];show wpAny _ _ (setField (.ref I) 2 .none>>=_) _ _ s;refine wpAny_bind (wpAny_setField hI rfl (by simp) ?_);show wpAny _ _ (newExc (.type "StopIteration") []>>=_) _ _ _;refine wpAny_bind ?_;simp only [newExc,newTuple];refine wpAny_bind (wpAny_newObj_type ?_ (by size_fits));refine wpAny_bind (m:=firstArgMember _ _) (wpAny_of_eq (a:=Value.none) (by first|rfl|(simp only [firstArgMember];rfl)) ?_);refine wpAny_newObj_type ?_ (by size_fits);simp only [raiseNew];refine wpAny_bind (wpAny_handled ?_)
 first|rw [show A.in1.handled=none from hh]|rw [hh]
 refine wpAny_bind (wpAny_pure (wpAny_throw ?_));refine wpAny_bind (wpAny_isInstance (T:="StopIteration") (b:=true) ⟨_,Heap.get?_push_size _ rfl,rfl⟩ isSubtype_stop ?_);exact wpAny_pure (hQ _ (((Heap.SameBut.update ..).extBut.push _).push _))
theorem qmb{I a:Addr}{xs:List (K×Value)}{ep i:Nat}{t:SetTable}(st:StI w hash I a xs ep t i s.heap){Q:Value→Shared→Prop}(h:Q (.ref I) s):wpAny (model prog w) A (pyIter (.ref I)) Q E s:=by
 obtain⟨⟨slot,hI,hs⟩,ho⟩:=st;have hT:s.TypeIs (.ref I) "set_iterator":=⟨_,hI,rfl⟩
 refine wpAny_pyIter_slot hT qdF (wpAny_call_entry qdF hT qgQ ?_ (qib _));show wpAny _ _ (ret (.ref I)) _ _ s;exact wpAny_pure ⟨_,rfl,"set_iterator",_,hT,qbv.lookup,h⟩
theorem walks(hh:A.handled=none)(I a:Addr)(hne:a≠I){xs:List (K×Value)}{ep:Nat}{t:SetTable}(T:Tb w hash xs t) :
  Walks prog w A I [I,a] [I] xs.length (fun i v=>∃e,(qcL w a ep (xs.map (ent hash)))[i]? = some e∧e.2=v) (fun i h=>StI w hash I a xs ep t i h) where
 sub:=fun b hb=>by simp at hb;simp [hb]
 frame:=fun _ _ _ st hk=>⟨let ⟨slot,x,y⟩:=st.1;⟨slot,hk I (by simp) _ x,y⟩,hk a (by simp) _ st.2⟩
 item:=fun i s Q E hi st hQ=>by
  have il:i<(qcL w a ep (xs.map (ent hash))).length:=by rw [(qcq ..).length_eq,List.length_map];exact hi
  refine next_item hne T st (List.getElem?_eq_getElem il) fun h' st' hs'=>?_
  exact hQ _ h' s.toks ⟨_,List.getElem?_eq_getElem il,rfl⟩ st' fun b o hb e=>hs'.extBut b o (fun h=>hb (by simp [h])) e
 done:=fun s Q E st hQ=>next_end hh T st fun h' he'=>hQ h' s.toks fun b o hb e=>he' b o (fun h=>hb (by simp [h])) e
 self:=fun _ _ _ _ st hQ=>qmb st hQ
end
section
variable{prog:Program}{w:World}{A:Around}{E:Value→Shared→Prop}{s:Shared}{K:Type} [DecidableEq K]{hash:K→Int}
theorem qiq{a:Addr}{xs:List (K×Value)}{ep:Nat}{t:SetTable}(hh:A.handled=none)(ho:s.heap.get? a=some (qbN (xs.map (ent hash)) ep t))(T:Tb w hash xs t)(hn:xs.length≤sizeLine){Q:List Value→Shared→Prop}
  (hQ:∀h' tk (acc:List Value),s.toks≤tk→s.heap.objs.size<h'.objs.size→(∀b o,s.heap.get? b=some o→h'.get? b=some o)→acc.Perm (xs.map (·.2))→Q acc {s with heap:=h',toks:=tk}):wpAny (model prog w) A (collect (.ref a)) Q E s:=by
 have ha:a<s.heap.objs.size:=Heap.lt_size ho;have hSI:s.heap.objs.size≠a:=Nat.ne_of_gt ha;unfold collect;refine wpAny_bind (wpAny_runValue (codeAny_builtin F.entry_proto_collect ?_));rw [Around.under_plainId F.plain_proto_collect _];show wpAny _ A.in1 (newList []>>=fun l=>again (.builtin "list.__iadd__" ⟨[l,.ref a],[]⟩)) _ _ s;refine wpAny_bind (wpAny_newObj_type ?_);refine wpAny_pure ⟨plainId_quiet F.plain_list_iadd _,codeAny_builtin F.entry_list_iadd ?_⟩;rw [Around.under_plainId F.plain_list_iadd _];have ho₁:(s.heap.push {cls:=.type "list",data:=.seq ([]:List Value).toArray}).get? a=some (qbN (xs.map (ent hash)) ep t):=Heap.get?_push_of_some _ ho;have hT₁:Shared.TypeIs {s with heap:=s.heap.push {cls:=.type "list",data:=.seq ([]:List Value).toArray}} (.ref a) "set":=⟨_,ho₁,rfl⟩
 show wpAny _ A.in1 (Builtin.List.listExtendWith (.ref s.heap.objs.size) (.ref a) (.ref s.heap.objs.size)) _ _ _;unfold Builtin.List.listExtendWith;refine wpAny_bind (wpAny_typeOf hT₁ ?_);have h1:Builtin.List.listSameRef (.ref s.heap.objs.size) (.ref a)=false:=by simp [Builtin.List.listSameRef,hSI]
 have h2:(Value.type "set" == Value.type "list")=false:=by decide
 have h3:(Value.type "set" == Value.type "tuple")=false:=by decide
 simp only [h1,h2,h3,Bool.or_false,Bool.false_eq_true,if_false];refine wpAny_bind (qnG ho₁ T ?_);have hsz:(s.heap.push {cls:=.type "list",data:=.seq ([]:List Value).toArray}).objs.size=s.heap.objs.size+1:=Heap.size_push ..;have ho₂:=Heap.get?_push_of_some (itO 0 0 a xs.length ep) ho₁;have hI₂:((s.heap.push {cls:=.type "list",data:=.seq ([]:List Value).toArray}).push (itO 0 0 a xs.length ep)).get? (s.heap.push {cls:=.type "list",data:=.seq ([]:List Value).toArray}).objs.size=some (itO 0 0 a xs.length ep):=Heap.get?_push_size _ rfl;have hT₂:Shared.TypeIs {s with heap:=(s.heap.push {cls:=.type "list",data:=.seq ([]:List Value).toArray}).push (itO 0 0 a xs.length ep)} (.ref a) "set":=⟨_,ho₂,rfl⟩
 refine wpAny_bind (wpAny_holding ?_);unfold Builtin.List.listLengthHint;refine wpAny_bind (wpAny_specialOf hT₂ PySem.F.slot_set_len.lookup ?_);show wpAny _ A.in1 (isInstance (Value.ref a) (.type "set")>>=_) _ _ _;refine wpAny_bind (wpAny_isInstance hT₂ sub_set_self ?_);simp only [Bool.not_true,Bool.false_eq_true,if_false];show wpAny _ A.in1 (typeOf (Value.ref a)>>=_) _ _ _;refine wpAny_bind (wpAny_typeOf hT₂ ?_);refine wpAny_pure ?_;show wpAny _ A.in1 (rule "list.extend.makes-room" >>= fun _=>Builtin.List.listTouch (.ref s.heap.objs.size)>>=fun _=>
  again (.builtin "list.extend.loop" ⟨[.ref s.heap.objs.size,.ref (s.heap.push {cls:=.type "list",data:=.seq ([]:List Value).toArray}).objs.size,.ref s.heap.objs.size],[]⟩)) _ _ _
 refine wpAny_bind (wpAny_rule ?_);have hS₁:((s.heap.push {cls:=.type "list",data:=.seq ([]:List Value).toArray}).push (itO 0 0 a xs.length ep)).get? s.heap.objs.size=some {cls:=.type "list",data:=.seq ([]:List Value).toArray}:=Heap.get?_push_of_some _ (Heap.get?_push_size _ rfl);rw [hsz]at *;generalize hH:(s.heap.push {cls:=.type "list",data:=.seq ([]:List Value).toArray}).push (itO 0 0 a xs.length ep)=H1 at *;have old1:∀b o,s.heap.get? b=some o→H1.get? b=some o:=fun b o e=>by rw [←hH];exact Heap.get?_push_of_some _ (Heap.get?_push_of_some _ e)
 refine wpAny_bind ?_;show wpAny _ A.in1 (updateSeq s.heap.objs.size (·.push .none)>>=fun _=>updateSeq s.heap.objs.size (·.pop)) _ _ _;refine wpAny_bind (wpAny_updateSeq hS₁ rfl ?_);have hS₂:=Heap.get?_update_self (Obj.mapSeq (·.push Value.none)) hS₁ rfl;refine wpAny_updateSeq hS₂ rfl ?_;have hS₃:=Heap.get?_update_self (Obj.mapSeq (·.pop)) hS₂ rfl;have oth:∀b o,b≠s.heap.objs.size→H1.get? b=some o→((H1.update s.heap.objs.size (Obj.mapSeq (·.push Value.none))).update s.heap.objs.size (Obj.mapSeq (·.pop))).get? b=some o:=
  fun b o hb e=>(Heap.get?_update_other _ _ (Ne.symm hb)).trans ((Heap.get?_update_other _ _ (Ne.symm hb)).trans e)
 have hne:a≠s.heap.objs.size+1:=Nat.ne_of_lt (Nat.lt_succ_of_lt ha);have hSf:s.heap.objs.size∉[s.heap.objs.size+1,a]:=by
  simp only [List.mem_cons,List.not_mem_nil,or_false,not_or];exact⟨Nat.ne_of_lt (Nat.lt_succ_self _),hSI⟩
 refine wpAny_pure ⟨plainId_quiet F.plain_extend_loop _,codeAny_extend_loopS ((walks (prog:=prog) (A:=A.in1) hh (s.heap.objs.size+1) a hne (ep:=ep) T).toS) hn _ hSf _ xs.length 0 _ _ _ rfl (Nat.zero_le _)
  ⟨⟨0,oth _ _ (Nat.succ_ne_self _) hI₂,fun _=>qjM (Ri.of T.good.ri)⟩,oth _ _ (Ne.symm hSI) ho₂⟩ hS₃ (ItemsOf.nil _) fun s' acc' c' hm hS' hacc=>?_⟩
 show wpAny _ A (load s.heap.objs.size>>=_) _ _ s';refine wpAny_bind (wpAny_load hS' ?_);obtain⟨h',g',d',tk',os'⟩:=s';have eg:g'=s.gens:=hm.gens;have ed:d'=s.drawn:=hm.drawn;have eo:os'=s.os:=hm.os;subst eg;subst ed;subst eo;refine wpAny_pure (hQ h' tk' acc'.toList hm.toks (Heap.lt_size hS') (fun b o e=>?_) ?_)
 ·have hb:=Heap.lt_size e;refine hm.heap b o (fun q=>?_) (oth b o (Nat.ne_of_lt hb) (old1 b o e));rcases List.mem_cons.mp q with q|q
  ·exact absurd q (Nat.ne_of_lt hb)
  ·exact absurd (List.mem_singleton.mp q) (Nat.ne_of_lt (Nat.lt_succ_of_lt hb))
 ·have e1:acc'.toList=(qcL w a ep (xs.map (ent hash))).map (·.2):=by
   refine List.ext_getElem? fun i=>?_
   have ln:(qcL w a ep (xs.map (ent hash))).length=xs.length:=by rw [(qcq ..).length_eq,List.length_map]
   rw [Array.getElem?_toList,List.getElem?_map];by_cases hi:i<xs.length
   ·have hi':i<acc'.size:=by rw [hacc.1];exact hi
    have e2:acc'[i]? = some acc'[i]:=Array.getElem?_eq_getElem hi';obtain⟨e,e3,e4⟩:=hacc.2 i _ e2;rw [e2,e3,←e4];rfl
   ·rw [Array.getElem?_eq_none (by rw [hacc.1];lia),List.getElem?_eq_none (by lia)];rfl
  rw [e1];refine((qcq w a ep _).map _).trans ?_;rw [List.map_map];exact .refl _
end
end ST
namespace ST
open PySem PySem.Spec PySem.SetTable PyProof.Rows
section
variable{prog:Program}{w:World}{A:Around}{E:Value→Shared→Prop}{s:Shared}
end
noncomputable def Kd.also{prog:Program}{w:World}{K:Type} [DecidableEq K](D:Kd prog w K)(P:K→Value→Prop):Kd prog w K where
 hash:=D.hash
 el:=fun h k v=>D.el h k v∧P k v
 grow:=fun h g=>⟨D.grow h.1 g,h.2⟩
 room:=D.room
 pyHash:=fun hu h q=>D.pyHash hu h.1 q
 add:=fun hu ho hS hel h hn q=>D.add hu ho hS (fun x hx=>(hel x hx).1) h.1 hn q
theorem qnb{prog:Program}{w:World}{vs:List Value}{ns:List Int}(h:PyProof.Rows.IntsAre vs ns):ItemsAre (intKind prog w) ns vs:=by
 induction h with
 |nil=>exact .nil
 |cons n t _ ih=>exact .cons (intKind_is _ _ _ _) ih
end ST
namespace L2
open PySem PySem.Spec PyProof.Rows
variable{X:Cx}
noncomputable def qkC(P:Program)(w:World)(p:Addr)(as:List Addr)(ts:List (List Int)):Heap→Prop:=fun h=>∃o xs,h.get? p=some o∧ST.qcy w (ST.tuH P w) xs o∧(∀x∈xs,∃i:Nat,∃a,as[i]? = some a∧ts[i]? = some x.1∧x.2=.ref a)∧(∀k,k∈xs.map (·.1)↔k∈ts)∧xs.length<64
noncomputable def qol(X:Cx):List V→Hp→VK→Prop:=fun vs H Q=>∃(l:Addr) (as:List Addr) (ts:List (List Int)),vs=[.ref l]∧(SqL X.K H l (as.map V.ref)∨SqT X.K H l (as.map V.ref))∧as.length=ts.length∧ts.length<64 ∧
 (∀(i:Nat) a t,as[i]? = some a→ts[i]? = some t→SqT X.K H a (t.map V.int))∧∀p,H p=none→Q (.ref p) (upd H p (.ext (qkC X.prog X.w p as ts)))
theorem getD_mem{α:Type} [DecidableEq α](l:List α)(d:α)(k:α):(∃j,j<l.length∧l.getD j d=k)↔k∈l:=by
 constructor
 ·rintro⟨j,hj,rfl⟩;rw [List.getD_eq_getElem?_getD,List.getElem?_eq_getElem hj];exact List.getElem_mem hj
 ·intro h;obtain⟨i,hi,rfl⟩:=List.getElem_of_mem h;exact⟨i,hi,by rw [List.getD_eq_getElem?_getD,List.getElem?_eq_getElem hi];rfl⟩
theorem qlx(hc:X.calm=true)(hu:X.A.units+64<cLine):qz X (.type "set") (qol X):=by
 intro pins s σ H xs us Q I r ⟨l,as,ts,e,hl,hlen,h64,ht,q⟩;subst e;obtain⟨u,rfl,ru⟩:=r.one;cases ru;have room:(ST.tuK X.prog X.w).room X.A.in1.in1.in1:=by show X.A.units+1+1+1<cLine;lia
 have hval:∀{its:List Value},Vals (as.map V.ref) its→∀(i:Nat) v,its.toArray[i]? = some v→((ST.tuK X.prog X.w).also fun k v=>∃i:Nat,∃a,as[i]? = some a∧ts[i]? = some k∧v=.ref a).el s.heap (ts.getD i []) v:=by
  intro its rv i v hv;have hil:i<its.length:=by have:=(Array.getElem?_eq_some_iff.mp hv).1;simpa using this
  have hl2:=rv.length;rw [List.length_map]at hl2;have e1:as[i]? = some as[i]:=List.getElem?_eq_getElem (by lia);have e2:ts[i]? = some ts[i]:=List.getElem?_eq_getElem (by lia);obtain⟨v',hv',rvv⟩:=rv.get (i:=i) (x:=.ref as[i]) (by simp [e1]);cases rvv;have ev:v=.ref as[i]:=by
   have:its[i]? = some v:=by simpa using hv
   rw [hv']at this;exact(Option.some.inj this).symm
  subst ev;obtain⟨its2,r2,⟨o,a1,a2,n,a3⟩,_⟩:=I.tuple (ht i _ _ e1 e2);rw [List.getD_eq_getElem?_getD,e2];exact⟨⟨_,rfl,o,_,n,a1,a2,a3,ST.qnb (intsAre_of r2)⟩,i,_,e1,e2,rfl⟩
 have fin:∀{its:List Value} (h':Heap) (tk:Nat),its.length=ts.length→ST.Holds ((ST.tuK X.prog X.w).also fun k v=>∃i:Nat,∃a,as[i]? = some a∧ts[i]? = some k∧v=.ref a) s.heap h' s.heap.objs.size (fun i=>ts.getD i []) its.toArray.size→(∀b o,b<s.heap.objs.size→s.heap.get? b=some o→h'.get? b=some o)→EP X pins σ Q (.ref s.heap.objs.size) {s with heap:=h',toks:=tk}:=by
  intro its h' tk hle ⟨o,ys,e1,e2,e3,e4,e5⟩ hk;rw [List.size_toArray,hle]at e4 e5;refine⟨.ref _,_,I.laid (t':=tk) (o:=.ext (qkC X.prog X.w s.heap.objs.size as ts)) (fun b o e=>hk b o (Heap.lt_size e) e) (Nat.le_refl _) ⟨⟨o,ys,e1,e2,fun x hx=>(e3 x hx).2,fun k=>(e4 k).trans (getD_mem ts [] k),by lia⟩,⟨_,e1⟩,fun h1 h2 ⟨o,ys,a1,a2⟩ k=>⟨o,ys,k _ a1,a2⟩⟩,rfl,q _ I.fresh⟩
 rcases hl with hl|hl
 ·obtain⟨its,rv,pl,hz⟩:=I.list hl;have hle:its.length=ts.length:=by rw [←rv.length,List.length_map,hlen]
  exact ST.call_set_list (D:=(ST.tuK X.prog X.w).also _) (I.ok.hd hc) room pl.isList (fun i=>ts.getD i []) (hval rv) (by rw [List.size_toArray,hle];exact h64) fun h' tk hH hk=>fin h' tk hle hH hk
 ·obtain⟨its,rv,pl,hz⟩:=I.tuple hl;have hle:its.length=ts.length:=by rw [←rv.length,List.length_map,hlen]
  exact ST.qga (D:=(ST.tuK X.prog X.w).also _) (I.ok.hd hc) room pl (fun i=>ts.getD i []) (hval rv) (by rw [List.size_toArray,hle];exact h64) fun h' tk hH hk=>fin h' tk hle hH hk
end L2
namespace ST
open PySem PySem.Spec PySem.SetTable PyProof.Rows TS L2
theorem qkE{h:Heap}{l:List Value}{ks:List (List Int)}(t:zW h l ks)(h2:l.length<2):ks.Pairwise (fun a b=>ltL b a=false):=by
 cases t with
 |nil=>exact .nil
 |cons x t=>
  cases t with
  |nil=>exact List.pairwise_singleton _ _
  |cons y t=>simp only [List.length_cons]at h2;lia
section
variable{prog:Program}{w:World}{A:Around}{E:Value→Shared→Prop}{s:Shared}
theorem qic{a:Addr}{xs:List (List Int×Value)}{hash:List Int→Int}{ep:Nat}{t:SetTable}(hh:A.handled=none)(hu:A.in1.in1.units<cLine)(ho:s.heap.get? a=some (qbN (xs.map (ent hash)) ep t))(T:Tb w hash xs t)
  (hel:∀x∈xs,TupAt s.heap x.2 x.1) (hne:∀x∈xs,x.1≠[]) (hn:xs.length<64) {Q:Value→Shared→Prop}
  (h:∀(h':Heap) (tk:Nat) (D:Addr) (out:List Value) (ks:List (List Int)) (c:Nat),s.heap.objs.size≤D→(∀b o,s.heap.get? b=some o→h'.get? b=some o)→h'.get? D=some {cls:=.type "list",data:=.seq out.toArray c}→out.Perm (xs.map (·.2))→zW s.heap out ks→ks.Pairwise (fun a b=>ltL b a=false)→Q (.ref D) {s with heap:=h',toks:=tk}) :
  wpAny (model prog w) A (call (.builtin "sorted") [.ref a]) Q E s:=by
 refine Calls.call_function_entry kind_sorted plain_sorted entry_sorted (PyProof.Rows.args_sorted1 _) ?_;unfold Builtin.«sorted»;refine wpAny_bind (m:=checkCount "sorted" 1 1 _) (wpAny_pure ?_);refine wpAny_bind (qiq (A:=A.in1) hh ho T (by rw [sizeLine_eq];lia) fun h1 tk acc _ hs1 k1 pm=>?_);have hT:∀v∈acc,∃k,TupAt s.heap v k∧k≠[]:=fun v hv=>by
  obtain⟨x,hx,rfl⟩:=List.mem_map.mp (pm.mem_iff.mp hv);exact⟨_,hel x hx,hne x hx⟩
 have tups:∃ks,zW s.heap acc ks∧∀k∈ks,k≠[]:=by
  clear pm
  induction acc with
  |nil=>exact⟨[],.nil,fun k hk=>by cases hk⟩
  |cons v acc ih=>
   obtain⟨k,a1,a2⟩:=hT v List.mem_cons_self;obtain⟨ks,b1,b2⟩:=ih fun u hu=>hT u (List.mem_cons_of_mem _ hu)
   exact⟨k::ks,.cons a1 b1,fun q hq=>by rcases List.mem_cons.mp hq with rfl|hq;exact a2;exact b2 q hq⟩
 obtain⟨ks,tt,tne⟩:=tups;have al:acc.length=xs.length:=by rw [pm.length_eq,List.length_map]
 have az:acc.length≤sizeLine:=by rw [sizeLine_eq,al];lia
 refine wpAny_bind (wpAny_newList (hsz:=az) ?_);have hL:(h1.push (seqObj "list" acc.toArray 0)).get? h1.objs.size=some (seqObj "list" acc.toArray 0):=Heap.get?_push_size _ rfl;have old:∀b o,s.heap.get? b=some o→(h1.push (seqObj "list" acc.toArray 0)).get? b=some o:=fun b o e=>Heap.get?_push_of_some _ (k1 b o e)
 have keep:∀out b o,s.heap.get? b=some o→(sortedHeap (h1.push (seqObj "list" acc.toArray 0)) h1.objs.size acc out).get? b=some o:=fun out b o e=>by
  have hb:=Heap.lt_size (k1 b o e);rw [sortedHeap_old (Nat.ne_of_lt hb) (by rw [Heap.size_push];exact Nat.lt_succ_of_lt hb)];exact old b o e
 show wpAny _ _ _ _ _ ({s with heap:=h1.push (seqObj "list" acc.toArray 0),toks:=tk}:Shared);refine wpAny_bind (wpAny_holding ?_);refine wpAny_call_entry slot_list_sort ⟨_,hL,rfl⟩ entry_list_sort ?_ (args_list_sort _);have pw:acc.length<2→ks.Pairwise (fun a b=>ltL b a=false):=qkE tt;by_cases h2:acc.length<2
 ·obtain⟨c,hc⟩:=sortedHeap_at (out:=acc.toArray) hL;have hq:=h (sortedHeap (h1.push (seqObj "list" acc.toArray 0)) h1.objs.size acc acc.toArray) tk h1.objs.size acc ks c (Nat.le_of_lt hs1) (keep _) hc pm tt (pw h2);refine qfm hL h2 ?_;exact⟨_,rfl,wpAny_pure ⟨_,rfl,hq⟩⟩
 ·refine qgi (h0:=s.heap) hL old (fun b o e=>Nat.ne_of_lt (Heap.lt_size (k1 b o e))) (by lia) (by lia) az tt (.inr tne) hu fun out ks' a1 a2 a3=>?_
  obtain⟨c,hc⟩:=sortedHeap_at (out:=out.toArray) hL;have hq:=h (sortedHeap (h1.push (seqObj "list" acc.toArray 0)) h1.objs.size acc out.toArray) tk h1.objs.size out ks' c (Nat.le_of_lt hs1) (keep _) hc (a1.trans pm) a2 a3;exact⟨_,rfl,wpAny_pure ⟨_,rfl,hq⟩⟩
end
end ST
namespace L2
open PySem PySem.Spec PyProof.Rows TS
variable{X:Cx}
theorem qiu(hc:X.calm=true)(hu:X.A.units+64<cLine):qz X (.builtin "sorted") (fun vs H Q=>∃(p:Addr) (as:List Addr) (ts:List (List Int)),vs=[.ref p]∧H p=some (.ext (qkC X.prog X.w p as ts))∧(∀t∈ts,t≠[])∧as.length=ts.length ∧
  (∀(i:Nat) a t,as[i]? = some a→ts[i]? = some t→SqT X.K H a (t.map V.int)) ∧
  ∀(D:Addr) (qs:List Addr) (ks:List (List Int)),H D=none→qs.length=ks.length→(∀(i:Nat) a t,qs[i]? = some a→ks[i]? = some t→∃j:Nat,as[j]? = some a∧ts[j]? = some t)→ks.Nodup→(∀k,k∈ks↔k∈ts)→ks.Pairwise (fun a b=>ltL b a=false)→Q (.ref D) (upd H D (.lst (qs.map V.ref)))):=by
 intro pins s σ H xs us Q I r ⟨p,as,ts,e,hp,hne,hlen,ht,q⟩;subst e;obtain⟨u,rfl,ru⟩:=r.one;cases ru;obtain⟨⟨o,ys,e1,⟨ep,t,rfl,T⟩,e3,e4,e5⟩,_⟩:=I.hok p _ hp;have tp:∀(i:Nat) a t,as[i]? = some a→ts[i]? = some t→TupAt s.heap (.ref a) t:=fun i a t ha hb=>by
  obtain⟨its,r2,⟨o,e1,e2,n,e3⟩,_⟩:=I.tuple (ht i a t ha hb);exact⟨a,o,its.toArray,n,rfl,e1,e2,e3,by simpa using intsAre_of r2⟩
 have hel:∀x∈ys,TupAt s.heap x.2 x.1:=fun x hx=>by
  obtain⟨i,a,a1,a2,a3⟩:=e3 x hx;rw [a3];exact tp i a _ a1 a2
 refine ST.qic (I.ok.hd hc) (by show X.A.units+1+1<cLine;lia) e1 T hel (fun x hx=>hne _ ((e4 _).mp (List.mem_map.mpr ⟨x,hx,rfl⟩))) e5 fun h' tk D out ks c hD hk hl op ot os=>?_
 have eo:out=(out.map qcw).map Value.ref:=by
  rw [List.map_map]
  conv=>lhs;rw [←List.map_id out]
  refine List.map_congr_left fun v hv=>?_
  obtain⟨x,hx,rfl⟩:=List.mem_map.mp (op.mem_iff.mp hv);obtain⟨i,a,a1,a2,a3⟩:=e3 x hx;rw [a3];rfl
 -- the keys, in the new order
 have gx:∃g:Value→List Int,∀v k,TupAt s.heap v k→g v=k:=by
  refine⟨fun v=>@dite _ (∃k,TupAt s.heap v k) (Classical.propDecidable _) (fun z=>z.choose) fun _=>[],fun v k hk=>?_⟩;have z:∃k,TupAt s.heap v k:=⟨k,hk⟩
  simp only [dif_pos z];exact qdt z.choose_spec hk
 obtain⟨g,hg⟩:=gx;have em:∀{l:List Value}{k:List (List Int)},zW s.heap l k→k=l.map g:=fun h=>by
  induction h with
  |nil=>rfl
  |cons t _ ih=>rw [List.map_cons,hg _ _ t,ih]
 have ek:=em ot;have kp:ks.Perm (ys.map (·.1)):=by
  rw [ek];refine(op.map g).trans ?_;rw [List.map_map,show ys.map (g∘fun x=>x.2)=ys.map (·.1)from List.map_congr_left fun x hx=>hg _ _ (hel x hx)]
 refine⟨.ref D,_,I.laid (t':=tk) (o:=.lst ((out.map qcw).map V.ref)) hk hD ⟨by rw [List.length_map,List.length_map,op.length_eq,List.length_map,sizeLine_eq];lia,out,c,by have:=qec (out.map qcw);rwa [←eo]at this,hl⟩,rfl,q D (out.map qcw) ks (I.hok.fresh hD) (by rw [ek,List.length_map,List.length_map]) (fun i a k ha hb=>?_) (kp.nodup_iff.mpr T.nd) (fun k=>kp.mem_iff.trans (e4 k)) os⟩;rw [ek,List.getElem?_map]at hb;rw [List.getElem?_map]at ha;cases qo:out[i]? with
 |none=>rw [qo]at ha;cases ha
 |some v=>
  rw [qo]at ha hb;cases ha;cases hb;obtain⟨x,hx,rfl⟩:=List.mem_map.mp (op.mem_iff.mp (List.mem_of_getElem? qo));obtain⟨i',a,a1,a2,a3⟩:=e3 x hx;rw [hg _ _ (hel x hx),a3];exact⟨i',a1,a2⟩
end L2
namespace HT
open PySem PySem.Spec PyProof.Rows L2
section
variable{prog:Program}{w:World}{A:Around}{E:Value→Shared→Prop}{s:Shared}
theorem qnj(xs:Array Value):((List.range xs.size).filterMap fun(m:Nat)=>xs[((((xs.size:Nat):Int)-1)+(m:Int) * -1).toNat]?).toArray=xs.toList.reverse.toArray:=by
 congr 1
 have ok:∀m∈List.range xs.size,xs[((((xs.size:Nat):Int)-1)+(m:Int) * -1).toNat]? = some (xs.toList.reverse.getD m .none):=fun m hm=>by
  have hm':=List.mem_range.mp hm;have e:((((xs.size:Nat):Int)-1)+(m:Int) * -1).toNat=xs.size-1-m:=by lia
  rw [e,Array.getElem?_eq_getElem (by lia),List.getD_eq_getElem?_getD,List.getElem?_reverse (by simpa using hm')];simp;rw [Array.getElem?_eq_getElem (by lia)];rfl
 have all:∀(l:List Nat),(∀m∈l,m∈List.range xs.size)→l.filterMap (fun(m:Nat)=>xs[((((xs.size:Nat):Int)-1)+(m:Int) * -1).toNat]?)=l.map fun m=>xs.toList.reverse.getD m .none:=by
  intro l
  induction l with
  |nil=>intro _;rfl
  |cons m l ih=>intro h;rw [List.filterMap_cons,ok m (h m List.mem_cons_self),List.map_cons];show _::_=_;rw [ih fun k hk=>h k (List.mem_cons_of_mem _ hk)]
 rw [all _ fun _ h=>h];refine List.ext_getElem (by simp) fun i h1 h2=>?_
 have hi:i<xs.size:=by simpa using h1
 rw [List.getElem_map,List.getElem_range,List.getD_eq_getElem?_getD,List.getElem?_eq_getElem h2];rfl
theorem qep{t sl:Addr}{items:Array Value}{tk:Tok}{Q:Value→Shared→Prop}(ht:IsTup s.heap t items)(hs:s.heap.IsSliceOf sl .none .none (.int (-1) tk))
  (h:Q (.ref s.heap.objs.size) {s with heap:=s.heap.push {cls:=.type "tuple",data:=.seq items.toList.reverse.toArray}}) (hsz:items.size≤sizeLine):wpAny (model prog w) A (getItem (.ref t) (.ref sl)) Q E s:=by
 have htake:sizeOk (.seq items.toList.reverse.toArray):=by
  show items.toList.reverse.toArray.size≤sizeLine;rw [List.size_toArray,List.length_reverse,Array.length_toList];exact hsz
 obtain⟨os,hos,hcs,hds⟩:=id hs;have hTs:s.TypeIs (.ref sl) "slice":=⟨os,hos,hcs⟩
 unfold getItem
 try with_reducible refine wpAny_holding ?_
 first|refine wpAny_bind (wpAny_pure ?_)|skip
 refine wpAny_bind (wpAny_sequenceKey ht.typeIs (by decide) ?_);refine wpAny_bind (wpAny_callSpecial?_slot (name:=Str.ofString "__getitem__") ht.typeIs PyProof.Rows.slot_tuple_getitem
  (wpAny_call_entry PyProof.Rows.slot_tuple_getitem ht.typeIs entry_tuple_getitem ?_ (args_tuple_getitem _ _)))
 show wpAny _ _ (Builtin.Tuple.tupleItemsOf (.ref t)>>=_) _ _ s;refine wpAny_bind (tupleItemsOf_ ht ?_);refine wpAny_bind (wpAny_typeOf hTs ?_);rw [if_pos (by decide)];refine wpAny_bind ?_;unfold Builtin.Slice.sliceApplied Builtin.Slice.sliceFields;refine wpAny_bind (wpAny_bind (wpAny_field hos hds (x:=.none) rfl (wpAny_bind (wpAny_field hos hds (x:=.none) rfl (wpAny_bind (wpAny_field hos hds (x:=.int (-1) tk) rfl (wpAny_pure ?_)))))));refine wpAny_bind (slicePart_int ?_);show wpAny _ _ (if ((-1:Int)==0)=true then _ else _) _ _ s;rw [if_neg (by decide)];refine wpAny_bind (slicePart_none (wpAny_bind (slicePart_none (wpAny_bind (wpAny_pure ?_)))));have e1:Builtin.Slice.sliceAdjust none none (-1) ((items.size:Nat):Int)=(((items.size:Nat):Int)-1,-1):=by unfold Builtin.Slice.sliceAdjust;simp
 have e2:Builtin.Slice.slicePlaces (((items.size:Nat):Int)-1) (-1) (-1)=items.size:=by
  unfold Builtin.Slice.slicePlaces;rw [if_neg (by decide)];rw [show -(-1:Int)=1 from rfl,Int.ediv_one];split<;>lia
 show wpAny _ _ (match Builtin.Slice.sliceAdjust none none (-1) ((items.size:Nat):Int)with|(lo,hi)=>pure (lo,(-1:Int),Builtin.Slice.slicePlaces lo hi (-1))) _ _ s;rw [e1];show wpAny _ _ (pure (((items.size:Nat):Int)-1,(-1:Int),Builtin.Slice.slicePlaces (((items.size:Nat):Int)-1) (-1) (-1))) _ _ s;rw [e2];refine wpAny_pure ?_;show wpAny _ _ (if ((((items.size:Nat):Int)-1)==0&&(-1:Int)==1&&items.size==items.size)=true then _ else _) _ _ s;rw [if_neg (by simp),qnj]
 first
  |exact wpAny_bind (m:=Builtin.Tuple.tupleExact _) (wpAny_newObj_type (wpAny_pure ⟨_,rfl,wpAny_pure h⟩) htake)
  |exact wpAny_bind (m:=Builtin.Tuple.tupleExact _) (wpAny_newObj_type (wpAny_bind (wpAny_pure (wpAny_pure ⟨_,rfl,wpAny_pure h⟩))) htake)
  |exact wpAny_bind (wpAny_bind (m:=Builtin.Tuple.tupleExact _) (wpAny_newObj_type (wpAny_pure (wpAny_pure ⟨_,rfl,wpAny_pure h⟩)) htake))
  |exact wpAny_bind (wpAny_bind (m:=Builtin.Tuple.tupleExact _) (wpAny_newObj_type (wpAny_pure ⟨_,rfl,wpAny_pure h⟩) htake))
end
end HT
namespace L2
open PySem PySem.Spec PyProof.Rows
variable{X:Cx}{e st:Expr}{te ts:TE}{p2 pos:Pos}
theorem qnO:∀{xs:List V}{us:List Value},Vals xs us→Vals xs.reverse us.reverse:=by
 have app:∀{xs ys:List V}{us ws:List Value},Vals xs us→Vals ys ws→Vals (xs++ys) (us++ws):=fun h h'=>by
  induction h with
  |nil=>exact h'
  |cons a _ ih=>exact .cons a ih
 intro xs us h
 induction h with
 |nil=>exact .nil
 |cons a _ ih=>rw [List.reverse_cons,List.reverse_cons];exact app ih (.cons a .nil)
noncomputable def qtV(K:PySem.W.Frag)(te ts:TE):TE:=fun σ H Q=>te σ H fun x H1=>ts σ H1 fun y H2=>y=.int (-1)∧∃a xs,x=.ref a∧SqT K H2 a xs∧∀p,H2 p=none→Q (.ref p) (upd H2 p (.tup xs.reverse))
theorem qrB(he:PE X e te)(hs:PE X st ts):PE X (.Subscript e (.Slice none none (some st) p2) pos) (qtV X.K te ts):=by
 intro pins s σ H Q I h;refine Subscript_ (thn (he pins s σ H _ I h) fun v s1 ⟨x,H1,I1,r1,q1⟩=>?_);refine wpAny_Slice ?_;rw [evalPart_none];refine wpAny_pure (wpAny_pure ?_);rw [evalPart_some];refine thn (hs pins s1 σ H1 _ I1 q1) fun u s3 ⟨y,H3,I3,r3,q3⟩=>?_
 obtain⟨rfl,a,xs,rfl,hx,q⟩:=q3;obtain⟨tk,rfl⟩:=r3;cases r1;have I4:Inv X pins σ H3 {s3 with heap:=s3.heap.push {cls:=.type "slice",data:=.fields #[.none,.none,.int (-1) tk]}}:=I3.kept (t':=s3.toks) fun b ob q=>Heap.get?_push_of_some _ q
 obtain⟨its,r,ht,hz⟩:=I4.tuple hx;have hlen:its.toArray.size=xs.length:=by rw [List.size_toArray];exact r.length.symm
 show wpAny (model X.prog X.w) X.A (subscriptTail e (.Slice none none (some st) p2) (.ref a) (.ref s3.heap.objs.size)) (EP X pins σ Q) X.xe {s3 with heap:=s3.heap.push {cls:=.type "slice",data:=.fields #[.none,.none,.int (-1) tk]}};refine tail_any (ops:=[.ref a,.ref s3.heap.objs.size]) ht.typeIs PyProof.Rows.slot_tuple_getitem.lookup (HT.qep ht (Heap.IsSliceOf.new ..) ?_ (by rw [hlen];exact hz)) (by with_unfolding_all rfl);exact⟨.ref _,_,I4.laid (o:=.tup xs.reverse) (fun b ob q=>Heap.get?_push_of_some _ q) (Nat.le_refl _) ⟨by rw [List.length_reverse];exact hz,its.reverse,qnO r,⟨_,Heap.get?_push_size _ rfl,rfl,0,by simp⟩⟩,rfl,q _ I4.fresh⟩
end L2
namespace EV
open PySem PySem.Spec PySem.P PyProof.Rows L2
theorem qkJ{α:Type} [DecidableEq α]{x:α}:∀{l:List α},x∈uq l↔x∈l
 | []=>.rfl
 |a::l=>by
  rw [uq];split
  ·rename_i h
   rw [qkJ,List.mem_cons];exact⟨.inr,fun z=>z.elim (fun e=>e▸h) id⟩
  ·rw [List.mem_cons,List.mem_cons,qkJ]
theorem qgT{α:Type} [DecidableEq α]:∀(l:List α),(uq l).Nodup
 | []=>.nil
 |a::l=>by
  rw [uq];split
  ·exact qgT l
  ·rename_i h
   exact List.nodup_cons.mpr ⟨fun z=>h (qkJ.mp z),qgT l⟩
theorem qpC{α:Type} [DecidableEq α]{l m:List α}(h1:m.Nodup)(h2:∀k,k∈m↔k∈l):m.Perm (uq l):=
 (List.perm_ext_iff_of_nodup h1 (qgT l)).mpr fun k=>(h2 k).trans qkJ.symm
theorem qnv{c:Cc}{b:B1}{as:List Expr}{a:Expr}(h:qmv c b as=some a):∃y p3 pos3,as=[.Call (.Name y p3) [a] [] pos3]∧b=.sorted∧glob c y=some .set∧isStar a=false∧c.calm=true:=by
 unfold qmv at h;split at h
 ·split at h
  ·rename_i hq
   cases h;simp only [Bool.and_eq_true,Bool.or_eq_true,beq_iff_eq,Bool.not_eq_true']at hq;exact⟨_,_,_,rfl,hq.1.1.1.1,hq.1.1.2,hq.1.2,hq.2⟩
  ·cases h
 ·cases h
section
variable{w:W}{g:Gc}{c:Cc}{E:XK}{X:Cx}{a:Expr}{ia:EV.E}{pos p2 p3 pos3:Pos}
theorem qmR{st:Expr}(h:qka st=true):∃k p q,st=.UnaryOp .USub (.Constant (.int 1) k p) q:=by
 unfold qka at h;split at h
 ·simp only [decide_eq_true_eq]at h;subst h;exact⟨_,_,_,rfl⟩
 ·cases h
theorem qh.rev{g:Gc}{H:Hp}:∀{ds:List D}{vs:List V},qh g H ds vs→qh g H ds.reverse vs.reverse:=by
 have app:∀{ds es:List D}{vs us:List V},qh g H ds vs→qh g H es us→qh g H (ds++es) (vs++us):=fun {ds}=>by
  induction ds with
  |nil=>intro es vs us h h';cases h;exact h'
  |cons d ds ih=>intro es vs us h h';cases h with|cons a b=>exact .cons a (ih b h')
 intro ds
 induction ds with
 |nil=>intro vs h;cases h;exact .nil
 |cons d ds ih=>intro vs h;cases h with|cons a b=>rw [List.reverse_cons,List.reverse_cons];exact app (ih b) (.cons a .nil)
theorem qsE(O:XO w g c E X){st:Expr}(ha:PE X a (tE w g c E ia))(hs:qka st=true):PE X (.Subscript a (.Slice none none (some st) p2) pos) (tE w g c E (.rev ia)):=by
 obtain⟨k,p,q,rfl⟩:=qmR hs;have hK:=O.K;refine PE.imp (qrB ha (qkA qkS qkV)) fun σ H Q ⟨τ,S,se,k⟩=>?_
 simp only [qX,zc,zb,zh,zf,qY,ze,zi,zg,qK,qB,qJ,qD,qF,qW,qI,qC,qw,qL,qH,qP,qr,qA,qR,qE,qx,qO,qN,qS,qM,qQ,qU,qV,qG,qT]at k;refine za se k fun da va H1 e1 p1 k1=>?_
 cases da with
 |tup xs=>
  obtain⟨l,vs,rfl,h1,r1⟩:=p1.rb.tup;refine⟨1,rfl,rfl,l,vs,rfl,by rw [hK];exact h1,fun p hp=>?_⟩;exact k1 _ _ (qck.of (p1.same.trans (qu hp)) (qaM (se.sub.same p1.same) hp r1.rev) rfl)
 |_=>exact k1.elim
theorem qrt(O:XO w g c E X)(hc:X.calm=true){x y:Str}{b:B1}(hb:b=.sorted)(hx:glob c x=some (.bi b))(hy:glob c y=some .set)(ha:PE X a (tE w g c E ia))(hs:isStar a=false) :
  PE X (.Call (.Name x p2) [.Call (.Name y p3) [a] [] pos3] [] pos) (tE w g c E (.sset (b==.len) ia)):=by
 obtain⟨h1,h2,id,h3⟩:=O.gm hx;have hbt:=qiR b;rw [←h2,h3]at hbt;obtain⟨r1,r2⟩:=O.gm hy;have hK:=O.K;have hr:=qaK (p:=p3) (pos:=pos3) (qlx hc O.units) (O.gl hy) r1 r2 (zj ha zP (qg hs)) (qy hy).2.2.2 (qy hy).2.2.1 (qg hs);have arg:∀{S:Sh}{H:Hp}{da:D}{va:V}{xs:List D},zE g H S da va→seq? da=some xs→∃l vs,va=.ref l∧(SqL g.K H l vs∨SqT g.K H l vs)∧qh g (hid H S) xs vs:=fun {S H da va xs} r e=>by
  cases da with
  |tup ys=>cases e;obtain⟨l,vs,rfl,q1,q2⟩:=r.tup;exact⟨l,vs,rfl,.inr q1,q2⟩
  |lst ys=>cases e;obtain⟨l,vs,rfl,q1,q2⟩:=r.lst;exact⟨l,vs,rfl,.inl q1,q2⟩
  |_=>cases e
 have hbc:∀(r:List V→Hp→VK→Prop),qz X (b1V b) r→PE X (.Call (.Name x p2) [.Call (.Name y p3) [a] [] pos3] [] pos) (tCB r (qdj (tCB (qol X) (qdj (tE w g c E ia) qfX)) qfX)):=fun r hcall=>by
  rw [h3]at hcall;exact qeT hcall (O.gl hx) h1 hbt (zj hr zP) (qy hx).2.2.2 (qy hx).2.2.1
 subst hb
 ·refine PE.imp (hbc _ (qiu hc O.units)) fun σ H Q ⟨τ,S,se,q⟩=>?_
  simp only [qX,zc,zb,zh,zf,qY,ze,zi,zg,qK,qB,qJ,qD,qF,qW,qI,qC,qw,qL,qH,qP,qr,qA,qR,qE,qx,qO,qN,qS,qM,qQ,qU,qV,qG,qT]at q;refine za se q fun da va H1 e1 p1 k1=>?_
  unfold qfc at k1;cases e2:seq? da with
  |none=>rw [e2]at k1;exact k1.elim
  |some xs=>
   rw [e2]at k1;simp only [qaq]at k1;by_cases h64:xs.length<64
   ·rw [if_pos h64]at k1;obtain⟨l,vs,rfl,hl,rr⟩:=arg p1.rb e2;cases e4:tups? xs with
    |none=>rw [e4]at k1;exact k1.elim
    |some ts=>
     rw [e4]at k1;have k1:=k1;simp only [show (B1.sorted==B1.len)=false from rfl,Bool.false_eq_true,if_false]at k1;obtain⟨rfl,as,rfl,hlen,hp⟩:=rr.tups e4;cases e5:ts.all (fun t=>!t.isEmpty)with
     |false=>rw [e5]at k1;exact k1.elim
     |true=>
      rw [e5,if_pos rfl]at k1;refine⟨l,as,ts,rfl,by rw [hK];exact hl,hlen,by simpa using h64,fun i b t hb ht=>by rw [hK];exact zO qab (hp i b t hb ht).1,fun p hp'=>⟨p,as,ts,rfl,zq,fun t ht=>by simpa using List.all_eq_true.mp e5 t ht,hlen,?_,?_⟩⟩
      ·exact fun i b t hb ht=>by rw [hK];exact zO (qu hp') (zO qab (hp i b t hb ht).1)
      ·intro D qs ks hD ql qm nd mem pw;have s1:=qu (o:=.ext (qkC X.prog X.w p as ts)) hp';have e6:=qht (qpC nd mem) pw;subst e6;refine k1 _ _ (qck.of ((p1.same.trans s1).trans (qu hD)) (qas (se.sub.same (p1.same.trans s1)) hD (qfN ql fun i b t hb ht=>?_)) rfl);obtain⟨j,j1,j2⟩:=qm i b t hb ht;exact(hp j b t j1 j2).2.mono (qk s1)
   ·rw [if_neg h64]at k1;exact k1.elim
end
section
variable{w:W}{g:Gc}{n:Nat}
theorem Snd.call_name(ih:Snd w g n){c:Cc}{E:XK}{X:Cx}(O:XO w g c E X){f:Str}{p pos:Pos}{as:List Expr}{ir:EV.E}(h:cE (n+1) c (.Call (.Name f p) as [] pos)=some ir):PE X (.Call (.Name f p) as [] pos) (tE w g c E ir):=by
 simp only [cE]at h;split at h
 ·cases h
 ·split at h
  ·rename_i fr hg
   simp only [Option.bind_eq_bind,Option.bind_eq_some_iff]at h;obtain⟨ies,h1,h⟩:=h;split at h
   ·rename_i hc
    simp only [Bool.and_eq_true,Bool.not_eq_true']at hc;cases h
    match as with
    | []=>simp at hc
    |e::es=>exact qrF O hg (ih.es O h1) hc.1 (qaZ h1)
   ·split at h
    ·rename_i hc
     simp only [Bool.not_eq_true']at hc;cases h
     match as with
     | []=>simp at hc
     |e::es=>exact qpz O hg (ih.es O h1) (qaZ h1)
    ·cases h
  ·rename_i b hg
   split at h
   ·rename_i a hs
    obtain⟨y,p3,pos3,rfl,hb,hy,hst,hc⟩:=qnv hs;rw [Option.map_eq_some_iff]at h;obtain⟨ia,h1,rfl⟩:=h;exact qrt O (O.calm hc) hb hg hy (ih.e O h1) hst
   simp only [Option.bind_eq_bind,Option.bind_eq_some_iff]at h;obtain⟨ies,h1,h⟩:=h;split at h
   ·rename_i hc
    simp only [Bool.and_eq_true,Bool.not_eq_true',Bool.or_eq_true,beq_iff_eq]at hc;cases h
    match as with
    | []=>simp at hc
    |e::es=>exact quo O hg (by rcases hc.2 with (z|z)|z;exact .inl (O.calm z);exact .inr (.inl z);exact .inr (.inr z)) (ih.es O h1) (qaZ h1)
   ·cases h
  ·rename_i t b hg
   have plain:∀{ies:Es},cEs n c as=some ies→as.isEmpty=false→PE X (.Call (.Name f p) as [] pos) (tE w g c E (.bi b ies)):=fun {ies} h1 he=>by
    match as with
    | []=>simp at he
    |e::es=>exact qtW O hg (ih.es O h1) (qaZ h1)
   split at h
   ·rename_i y p' as' q
    split at h
    ·rename_i hr
     simp only [Bool.and_eq_true,beq_iff_eq]at hr;split at h
     ·rename_i hc
      simp only [Bool.and_eq_true,Bool.or_eq_true,beq_iff_eq]at hc;split at h
      ·rename_i a
       split at h
       ·cases h
       ·rename_i hs
        have hs:isStar a=false:=by simpa using hs
        simp only [Option.bind_eq_bind,Option.bind_eq_some_iff]at h;obtain⟨ia,h1,h⟩:=h;cases h;exact qof O (O.calm hc.1) hg hr.2 (qsv (ih.e O h1) hs) (by intro z hz;simp at hz;rw [hz];exact hs) hc.2 qnm
      ·rename_i a d
       split at h
       ·cases h
       ·rename_i hs
        have hs:isStar a=false∧isStar d=false:=by simpa using hs
        simp only [Option.bind_eq_bind,Option.bind_eq_some_iff]at h;obtain⟨ia,h1,ib,h2,h⟩:=h;cases h;exact qof O (O.calm hc.1) hg hr.2 (zj (ih.e O h1) (zj (ih.e O h2) zP (qg hs.2)) (qg hs.1)) (by intro z hz;simp at hz;rcases hz with rfl|rfl;exact hs.1;exact hs.2) hc.2 qmZ
      ·rename_i a d k
       split at h
       ·cases h
       ·rename_i hs
        have hs:(isStar a=false∧isStar d=false)∧isStar k=false:=by simpa [and_assoc]using hs
        simp only [Option.bind_eq_bind,Option.bind_eq_some_iff]at h;obtain⟨ia,h1,ib,h2,id,h3,h⟩:=h;split at h
        ·rename_i ht
         have ht:=eq_of_beq ht;subst ht;cases h;exact qqP O (O.calm hc.1) hg hr.2 (ih.e O h1) (ih.e O h2) (ih.e O h3) hs.1.1 hs.1.2 hs.2
        ·cases h
      ·cases h
     ·cases h
    ·simp only [Option.bind_eq_bind,Option.bind_eq_some_iff]at h;obtain⟨ies,h1,h⟩:=h;cases h;exact plain h1 rfl
   ·simp only [Option.bind_eq_bind,Option.bind_eq_some_iff]at h;obtain⟨ies,h1,h⟩:=h;split at h
    ·rename_i hc
     cases h;exact plain h1 (by simpa using hc)
    ·cases h
  ·rename_i hg
   split at h
   ·rename_i a k
    split at h
    ·cases h
    ·rename_i hs
     simp only [Option.bind_eq_bind,Option.bind_eq_some_iff]at h;obtain⟨ia,h1,cl,h2,h⟩:=h;cases h;exact qtG O hg (ih.e O h1) h2 (by simpa using hs)
   ·cases h
  ·cases h
theorem qfF:∀{n:Nat}{c:Cc}{l:List Expr}{es:Es},cEs n c l=some es→l.length≤n
 | 0,_,_,_,h=>by simp [cEs]at h
 |n+1,_,[],_,_=>by simp
 |n+1,c,x::l,es,h=>by
  have hs:=qaZ h x List.mem_cons_self;simp only [cEs,hs,Bool.false_eq_true,if_false,Option.bind_eq_bind,Option.bind_eq_some_iff]at h;obtain⟨_,_,r,hr,_⟩:=h;have:=qfF hr
  simpa using this
theorem qiP{c:Cc}{elt:Expr}{gs:List Comprehension}{sc:Scope}{p:Pos}{ir:EV.E}(h:cE (n+1) c (.ListComp elt gs sc p)=some ir)(h2:qfH (.ListComp elt gs sc p)=false) :
  ∃tgt it ifs iit itg it' ie,gs=[⟨tgt,it,ifs,0⟩]∧(c.calm=true∧zd it=true)∧(qbc (fun x=>c.nm.lookup x) c.N (zt sc.names) (qbl c sc.names) sc=true∧(zt sc.names).Nodup)∧cI n c it=some iit∧cTg (zv c sc) tgt=some itg∧qcM n (zv c sc) ifs=some it'∧cE n (zv c sc) elt=some ie∧(esc ie=true∧qcO iit tgt=true)∧ir=.comp iit (qbl c sc.names) itg it' ie:=by
 unfold cE at h;dsimp only at h;split at h
 ·rename_i tgt it ifs asy
  split at h
  ·cases h
  ·rename_i hs
   have hs:(asy=0∧c.calm=true)∧zd it=true:=by simpa using hs
   obtain⟨⟨rfl,hs1⟩,hs2⟩:=hs;split at h
   ·cases h
   ·rename_i hk
    have hk:qbc (fun x=>c.nm.lookup x) c.N (zt sc.names) (qbl c sc.names) sc=true∧(zt sc.names).Nodup:=by simpa using hk
    simp only [Option.bind_eq_bind,Option.bind_eq_some_iff]at h;obtain⟨iit,h1,itg,h2,it',h3,ie,h4,h⟩:=h;split at h
    ·rename_i he
     simp only [Bool.and_eq_true]at he;cases h;exact⟨tgt,it,ifs,iit,itg,it',ie,rfl,⟨hs1,hs2⟩,hk,h1,h2,h3,h4,he,rfl⟩
    ·cases h
 ·cases h2
 ·cases h
theorem qna{c:Cc}{elt:Expr}{gs:List Comprehension}{sc:Scope}{p:Pos}{ir:EV.E}(h:cE (n+1) c (.ListComp elt gs sc p)=some ir)(h2:qfH (.ListComp elt gs sc p)=true) :
  ∃tgt it tgt2 it2 ifs2 iit itg ii2 tg2 it' ie,gs=[⟨tgt,it,[],0⟩,⟨tgt2,it2,ifs2,0⟩]∧(c.calm=true∧zd it=true∧zd it2=true)∧(qbc (fun x=>c.nm.lookup x) c.N (zt sc.names) (qbl c sc.names) sc=true∧(zt sc.names).Nodup)∧cI n c it=some iit∧cTg (zv c sc) tgt=some itg∧cI n (zv c sc) it2=some ii2∧cTg (zv c sc) tgt2=some tg2∧qcM n (zv c sc) ifs2=some it'∧cE n (zv c sc) elt=some ie∧(((esc ie=true∧qcO iit tgt=true)∧qcO ii2 tgt2=true)∧owned ii2=false)∧ir=.comp2 iit (qbl c sc.names) itg ii2 tg2 it' ie:=by
 unfold cE at h;dsimp only at h;split at h
 ·cases h2
 ·rename_i tgt it ifs asy tgt2 it2 ifs2 asy2
  split at h
  ·cases h
  ·rename_i hs
   have hs:((((asy=0∧asy2=0)∧ifs=[])∧c.calm=true)∧zd it=true)∧zd it2=true:=by simpa using hs
   obtain⟨⟨⟨⟨⟨rfl,rfl⟩,rfl⟩,hs1⟩,hs2⟩,hs3⟩:=hs;split at h
   ·cases h
   ·rename_i hk
    have hk:qbc (fun x=>c.nm.lookup x) c.N (zt sc.names) (qbl c sc.names) sc=true∧(zt sc.names).Nodup:=by simpa using hk
    simp only [Option.bind_eq_bind,Option.bind_eq_some_iff]at h;obtain⟨iit,h1,itg,h2,ii2,h3,tg2,h4,it',h5,ie,h6,h⟩:=h;split at h
    ·rename_i he
     simp only [Bool.and_eq_true,Bool.not_eq_true']at he;cases h;exact⟨tgt,it,tgt2,it2,ifs2,iit,itg,ii2,tg2,it',ie,rfl,⟨hs1,hs2,hs3⟩,hk,h1,h2,h3,h4,h5,h6,he,rfl⟩
    ·cases h
 ·cases h
theorem qeK{x:Expr}{t:Str}(h:qhk x=some t):∃k p,x=.Constant (.str t) k p:=by
 unfold qhk at h;split at h
 ·split at h
  ·cases h;exact⟨_,_,rfl⟩
  ·cases h
 ·cases h
theorem qhI{x a:Expr}(h:qjA x=some a):∃p,x=.FormattedValue a (-1) none p:=by
 unfold qjA at h;split at h
 ·split at h
  ·split at h
   ·rename_i e;cases h;subst e;exact⟨_,rfl⟩
   ·cases h
  ·cases h
 ·cases h
theorem qng{vs:List Expr}{t0 t1 t2:Str}{a b:Expr}(h:qmK vs=some (t0,a,t1,b,t2)):∃k0 k1 k2 p0 p1 p2 p3 p4,vs=[.Constant (.str t0) k0 p0,.FormattedValue a (-1) none p1,.Constant (.str t1) k1 p2,.FormattedValue b (-1) none p3,.Constant (.str t2) k2 p4]∧(Str.empty++t0).length≤1000:=by
 unfold qmK at h;split at h
 ·simp only [Option.bind_eq_bind,Option.bind_eq_some_iff]at h;obtain⟨u0,h0,u1,h1,u2,h2,u3,h3,u4,h4,h⟩:=h;split at h
  ·rename_i hz
   cases h;obtain⟨k0,p0,rfl⟩:=qeK h0;obtain⟨p1,rfl⟩:=qhI h1;obtain⟨k1,p2,rfl⟩:=qeK h2;obtain⟨p3,rfl⟩:=qhI h3;obtain⟨k2,p4,rfl⟩:=qeK h4;exact⟨_,_,_,_,_,_,_,_,rfl,hz⟩
  ·cases h
 ·cases h
theorem Snd.e_succ(ih:Snd w g n)(hn:n≤100000){c:Cc}{E:XK}{X:Cx}(O:XO w g c E X){x:Expr}{ir:EV.E}(h:cE (n+1) c x=some ir):PE X x (tE w g c E ir):=by
 have h0:=h;unfold cE at h;split at h
 ·-- Name
  rename_i y p
  split at h
  ·rename_i i hl
   have:=qtg (w:=w) (E:=E) (pos:=p) O hl;cases ho:c.own.contains y with
   |true=>rw [ho]at h this;cases h;exact this
   |false=>rw [ho]at h this;cases h;exact this
  ·split at h
   ·rename_i hg;cases h;exact qtE O hg
   ·rename_i fr hg;cases h;exact qts O hg
   ·cases h
 ·split at h
  ·cases h;exact qgZ qkV fun _=>.int _
  ·cases h;exact qgZ qsT fun _=>.bl _
  ·cases h;exact qgZ qrU fun _=>.non
  ·cases h;exact qgZ qfj fun _=>.str _
  ·cases h
 ·simp only [Option.bind_eq_bind,Option.bind_eq_some_iff]at h;obtain⟨o,ho,ia,h1,ib,h2,h⟩:=h;cases h;exact qud O ho (ih.e O h1) (ih.e O h2)
 ·rename_i op a p
  simp only [Option.bind_eq_bind,Option.bind_eq_some_iff]at h;obtain⟨ia,h1,h⟩:=h;cases op with
  |USub=>cases h;exact qsN (ih.e O h1)
  |Invert=>cases h;exact qtN (ih.e O h1)
  |Not=>cases h;exact qsB (ih.e O h1)
  |UAdd=>cases h
 ·exact(ih.bo O h).1
 ·split at h
  ·simp only [Option.bind_eq_bind,Option.bind_eq_some_iff]at h;obtain⟨ia,h1,ib,h2,h⟩:=h;split at h
   ·rename_i hs;cases h;exact qsZ O (ih.e O h1) (ih.e O h2) hs
   ·cases h
  ·simp only [Option.bind_eq_bind,Option.bind_eq_some_iff]at h;obtain⟨ia,h1,ib,h2,id',h3,h⟩:=h;split at h
   ·rename_i hs
    simp only [Bool.and_eq_true]at hs;cases h;exact qql O (ih.e O h1) (ih.e O h2) (ih.e O h3) hs.2
   ·cases h
  ·simp only [Option.bind_eq_bind,Option.bind_eq_some_iff]at h;obtain⟨ia,h1,ib,h2,id',h3,if',h4,h⟩:=h;split at h
   ·rename_i hs
    simp only [Bool.and_eq_true]at hs;cases h;exact qpX O (ih.e O h1) (ih.e O h2) (ih.e O h3) (ih.e O h4) hs.2
   ·cases h
  ·cases h
 ·split at h
  ·rename_i ks vs _ hk
   simp only [Bool.and_eq_true,List.isEmpty_iff]at hk;obtain⟨rfl,rfl⟩:=hk;cases h;exact qtL
  ·cases h
 ·split at h
  ·rename_i hf
   simp only [Option.bind_eq_bind,Option.bind_eq_some_iff]at h;obtain⟨ia,h1,ib,h2,h⟩:=h;cases h;obtain⟨k0,k1,k2,p0,p1,p2,p3,p4,rfl,hz⟩:=qng hf;exact qtt hz (ih.e O h1) (ih.e O h2)
  ·cases h
 ·simp only [Option.bind_eq_bind,Option.bind_eq_some_iff]at h;obtain⟨it,h1,ia,h2,ib,h3,h⟩:=h;split at h
  ·rename_i hs
   simp only [Bool.and_eq_true]at hs;cases h;exact qtc (ih.t O h1) (ih.e O h2) (ih.e O h3) hs.1 hs.2
  ·cases h
 ·simp only [Option.bind_eq_bind,Option.bind_eq_some_iff]at h;obtain⟨ies,h1,h⟩:=h;split at h
  ·rename_i hs;cases h
   exact qth (ih.es O h1) hs fun τ ds e=>by rw [qeM h1 e];exact Nat.le_trans (qfF h1) hn
  ·cases h
 ·simp only [Option.bind_eq_bind,Option.bind_eq_some_iff]at h;obtain⟨ies,h1,h⟩:=h;split at h
  ·rename_i hs;cases h
   exact qsR (ih.es O h1) hs fun τ ds e=>by rw [qeM h1 e];exact Nat.le_trans (qfF h1) hn
  ·cases h
 ·split at h
  ·rename_i lo hi st' sp
   split at h
   ·split at h
    ·rename_i hq
     simp only [Bool.and_eq_true,Option.isNone_iff_eq_none]at hq;obtain⟨⟨rfl,rfl⟩,hq⟩:=hq;rw [Option.map_eq_some_iff]at h;obtain⟨ia,h1,rfl⟩:=h;exact qsE O (ih.e O h1) hq
    ·cases h
   ·simp only [Option.bind_eq_bind,Option.bind_eq_some_iff]at h;obtain⟨ia,h1,il,h2,ih',h3,h⟩:=h;cases h;exact qug O (ih.e O h1) (ih.o O h2) (ih.o O h3)
  ·split at h
   ·cases h
   ·rename_i hs
    simp only [Option.bind_eq_bind,Option.bind_eq_some_iff]at h;obtain⟨ia,h1,ib,h2,h⟩:=h;cases h;exact quq O (ih.e O h1) (ih.e O h2) (by simpa using hs)
 ·-- ListComp
  rename_i elt gs sc p
  cases htwo:qfH (.ListComp elt gs sc p)with
  |true=>
   obtain⟨tgt,it,tgt2,it2,ifs2,iit,itg,ii2,tg2,it',ie,rfl,hs,hk,h1,h2,h3,h4,h5,h6,he,rfl⟩:=qna h0 htwo;have hS:zJ X (zt sc.names) (qbl c sc.names) sc:=zJ.of (by
    have e1:(fun x=>c.nm.lookup x)=X.env.kindOf:=by funext x;show _=X.env.scope.names.lookup x;rw [O.nm]
    rw [←e1,O.N];exact hk.1)
   refine qpO O (O.calm hs.1) hS hk.2 (ih.i O h1 he.1.1.2) (fun cl C s₀ H₀ fp=>?_) he.1.1.1 he.2 hs.2.1 hs.2.2;have OY:=O.comp hS.kind hk.2 cl C s₀ H₀ fp;exact⟨qeB OY h2,ih.i OY h3 he.1.2,qeB OY h4,ih.ifs OY h5,ih.e OY h6⟩
  |false=>
  obtain⟨tgt,it,ifs,iit,itg,it',ie,rfl,hs,hk,h1,h2,h3,h4,he,rfl⟩:=qiP h0 htwo;have hS:zJ X (zt sc.names) (qbl c sc.names) sc:=zJ.of (by
   have e1:(fun x=>c.nm.lookup x)=X.env.kindOf:=by funext x;show _=X.env.scope.names.lookup x;rw [O.nm]
   rw [←e1,O.N];exact hk.1)
  refine qqi O (O.calm hs.1) hS hk.2 (ih.i O h1 he.2) (fun cl C s₀ H₀ fp=>?_) he.1 hs.2;have OY:=O.comp hS.kind hk.2 cl C s₀ H₀ fp;exact⟨qeB OY h2,ih.ifs OY h3,ih.e OY h4⟩
 ·split at h
  ·split at h
   ·exact ih.call_name O h0
   ·cases h
  ·cases h
 ·cases h
theorem qnQ:Snd w g 0:=⟨fun _ _ _ h=>by simp [cE]at h,fun _ _ _ _ _ h=>by simp [cBo]at h,fun _ _ _ h=>by simp [cO]at h,fun _ _ _ h=>by simp [cEs]at h,fun _ _ _ _ h=>by simp [cI]at h,fun _ _ _ h=>by simp [cT]at h,fun _ _ _ _ _ h=>by simp [cTs]at h,fun _ _ _ h=>by simp [qcM]at h⟩
theorem snd:∀n,n≤100000→Snd w g n
 | 0,_=>qnQ
 |n+1,h=>
  have ih:=snd n (Nat.le_of_succ_le h)
  ⟨fun O _ _ q=>ih.e_succ (Nat.le_of_succ_le h) O q,fun O _ _ _ _ q=>ih.bo_succ O q,fun O _ _ q=>ih.o_succ O q,fun O _ _ q=>ih.es_succ O q,fun O _ _ _ q t=>ih.i_succ O q t,fun O _ _ q=>ih.t_succ O q,fun O _ _ _ _ q=>ih.ts_succ O q,fun O _ _ q=>ih.ifs_succ O q⟩
end
noncomputable def zp(c:Cc)(i:Nat):Prop:=∃x,c.N[i]? = some x∧c.own.contains x=true
structure SS(g:Gc)(c:Cc)(H0:Hp)(B:Sh)(τ:Env)(σ:L2.St)(H:Hp)(S:Sh):Prop where
 se:SE g c τ σ H S
 lenN:τ.length=c.N.length
 same:qf H0 H
 sub0:Sub B H0
 hd:∀a,S.h a=(B.h a||S.o a)
 new:∀a,S.o a=true→H0 a=none
 own:∀i d,zp c i→τ[i]? = some (some d)→∃a vs ds,σ[i]? = some (some (.ref a))∧S.o a=true∧d=.lst ds∧H a=some (.lst vs)∧qh g (hid H S) ds vs
 inj:∀i j d e a,zp c i→zp c j→τ[i]? = some (some d)→τ[j]? = some (some e)→σ[i]? = some (some (.ref a))→σ[j]? = some (some (.ref a))→i=j
 frz:c.frz=true→(∀i,zp c i→σ[i]? = B.z[i]?)∧qf B.y H
section
variable{g:Gc}{c:Cc}{H0:Hp}{B:Sh}{τ:Env}{σ:L2.St}{H H':Hp}{S:Sh}
theorem SS.up(s:SS g c H0 B τ σ H S)(e:qf H H'):SS g c H0 B τ σ H' S:=
 ⟨s.se.up e,s.lenN,s.same.trans e,s.sub0,s.hd,s.new,fun i d hi h=>let ⟨a,vs,ds,h1,h2,h3,h4,h5⟩:=s.own i d hi h;⟨a,vs,ds,h1,h2,h3,e _ _ h4,h5.mono (qk e)⟩,s.inj,fun z=>⟨(s.frz z).1,(s.frz z).2.trans e⟩⟩
theorem SS.set{i:Nat}{d:D}{v:V}(s:SS g c H0 B τ σ H S)(hi:¬ zp c i)(r:Rep g (hid H S) d v):SS g c H0 B (τ.set i (some d)) (σ.set i (some v)) H S:=by
 refine⟨s.se.set r,by simp [s.lenN],s.same,s.sub0,s.hd,s.new,fun j e hj h=>?_,fun j k e f a hj hk h1 h2 h3 h4=>?_,fun z=>⟨fun j hj=>?_,(s.frz z).2⟩⟩
 ·have hij:i≠j:=fun z=>hi (z▸hj)
  rw [List.getElem?_set_ne hij]at h ⊢;exact s.own j e hj h
 ·have hij:i≠j:=fun z=>hi (z▸hj)
  have hik:i≠k:=fun z=>hi (z▸hk)
  rw [List.getElem?_set_ne hij]at h1 h3;rw [List.getElem?_set_ne hik]at h2 h4;exact s.inj j k e f a hj hk h1 h2 h3 h4
 ·rw [List.getElem?_set_ne (fun z:i=j=>hi (z▸hj))];exact(s.frz z).1 j hj
theorem SS.setAll{is:List Nat}:∀{ds:List D}{vs:List V}{τ τ':Env}{σ:L2.St}{Q:L2.St→Hp→Prop},SS g c H0 B τ σ H S→(∀i∈is,¬ zp c i)→qh g (hid H S) ds vs→EV.setAll is ds τ=.ok τ'→(∀σ',SS g c H0 B τ' σ' H S→Q σ' H)→qdS is vs σ H Q:=by
 induction is with
 |nil=>
  intro ds vs τ τ' σ Q se _ r h k;cases r with
  |nil=>cases (show R.ok τ=R.ok τ' from h);exact⟨rfl,k σ se⟩
  |cons _ _=>cases (show R.no=R.ok τ' from h)
 |cons i is ih=>
  intro ds vs τ τ' σ Q se ho r h k;cases r with
  |nil=>cases (show R.no=R.ok τ' from h)
  |cons r rs=>exact⟨_,_,rfl,ih (se.set (ho i List.mem_cons_self) r) (fun j hj=>ho j (List.mem_cons_of_mem _ hj)) rs h k⟩
theorem qjQ{tg:Tg}(h:qdN c tg):match tg with | .nm i=>¬ zp c i | .tp is=>∀i∈is,¬ zp c i:=by
 cases tg with
 |nm i=>rintro⟨x,h1,h2⟩;rw [h x h1]at h2;cases h2
 |tp is=>rintro i hi ⟨x,h1,h2⟩;rw [h i hi x h1]at h2;cases h2
theorem SS.store{X:Cx}(O:X.K=g.K){tg:Tg}{d:D}{v:V}{τ':Env}{Q:L2.St→Hp→Prop}(s:SS g c H0 B τ σ H S)(hf:qdN c tg)(r:Rep g (hid H S) d v)(h:EV.store tg d τ=.ok τ')(k:∀σ',SS g c H0 B τ' σ' H S→Q σ' H):gT X.K tg v σ H Q:=by
 have ho:=qjQ hf;cases tg with
 |nm i=>
  simp only [EV.store,R.ok.injEq]at h;subst h;exact k _ (s.set ho r)
 |tp is=>
  cases d with
  |tup ds=>
   simp only [EV.store]at h;split at h
   ·rename_i hl
    cases r with
    |tup h1 r1=>exact⟨_,_,rfl,by rw [O];exact zO qab h1,by rw [←r1.length];exact hl,s.setAll ho r1 h k⟩
   ·cases h
  |_=>simp [EV.store]at h
noncomputable def qoj(S:Sh)(a:Addr):Sh:=⟨fun b=>S.o b||b==a,fun b=>S.h b||b==a,S.z,S.y⟩
theorem SS.setOwn{i:Nat}{d:D}{v:V}(s:SS g c H0 B τ σ H S)(hz:c.frz=false)(hi:zp c i)(hlt:i<τ.length)(e:qf H H')(f:Fr g H S H' d v):∃S',SS g c H0 B (τ.set i (some d)) (σ.set i (some v)) H' S'∧qf (hid H S) (hid H' S'):=by
 obtain⟨a,vs,ds,rfl,rfl,h1,h2,h3⟩:=f;have up:qf (hid H S) (hid H' (qoj S a)):=fun b o hb=>by
  obtain⟨z1,z2⟩:=quf.mp hb;refine quf.mpr ⟨?_,e _ _ z2⟩;show (S.h b||b==a)=false;rw [z1]
  simpa using fun z:b=a=>by rw [z,h1]at z2;cases z2
 have hlt':i<σ.length:=by rw [←s.se.len];exact hlt
 refine⟨qoj S a,⟨⟨by simp [s.se.len],fun j e' hj=>?_,fun b hb n=>?_⟩,by simp [s.lenN],s.same.trans e,s.sub0,fun b=>?_,fun b hb=>?_,fun j e' hj h=>?_,fun j k e1 e2 b hj hk q1 q2 q3 q4=>?_,fun z=>by rw [hz]at z;cases z⟩,up⟩
 ·by_cases hij:i=j
  ·subst hij;simp [hlt]at hj;subst hj;refine⟨.ref a,by simp [hlt'],.inr ⟨a,vs,ds,by show (S.o a||a==a)=true;simp,rfl,rfl,h2,h3⟩,fun x hx hn=>?_⟩;obtain⟨y,hy1,hy2⟩:=hi;rw [hy1]at hx;cases hx;rw [hn]at hy2;cases hy2
  ·rw [List.getElem?_set_ne hij]at hj ⊢;obtain⟨u,z1,z2,z3⟩:=s.se.val j e' hj;refine⟨u,z1,?_,fun x hx hn=>(z3 x hx hn).mono up⟩;rcases z2 with z2|⟨a',vs',ds',y1,y2,y3,y4,y5⟩
   ·exact .inl (z2.mono up)
   ·exact .inr ⟨a',vs',ds',by show (S.o a'||a'==a)=true;rw [y1];rfl,y2,y3,e _ _ y4,y5.mono up⟩
 ·have hb:(S.h b||b==a)=true∨(S.o b||b==a)=true:=hb;by_cases hba:b=a
  ·rw [hba,h2]at n;cases n
  ·have:S.h b=true∨S.o b=true:=by
    rcases hb with z|z
    ·exact .inl (by simpa [hba]using z)
    ·exact .inr (by simpa [hba]using z)
   exact(s.se.sub.same e) b this n
 ·show (S.h b||b==a)=(B.h b||(S.o b||b==a))
  rw [s.hd b,Bool.or_assoc]
 ·have hb:(S.o b||b==a)=true:=hb;by_cases hba:b=a
  ·rw [hba];exact s.same.free h1
  ·exact s.new b (by simpa [hba]using hb)
 ·by_cases hij:i=j
  ·subst hij;simp [hlt]at h;subst h;exact⟨a,vs,ds,by simp [hlt'],by show (S.o a||a==a)=true;simp,rfl,h2,h3⟩
  ·rw [List.getElem?_set_ne hij]at h ⊢;obtain⟨a',vs',ds',y1,y2,y3,y4,y5⟩:=s.own j e' hj h;exact⟨a',vs',ds',y1,by show (S.o a'||a'==a)=true;rw [y2];rfl,y3,e _ _ y4,y5.mono up⟩
 ·have other:∀j e1 b,i≠j→zp c j→τ[j]? = some (some e1)→σ[j]? = some (some (.ref b))→b≠a:=fun j e1 b hij hj q1 q3 z=>by
   obtain⟨a',vs',ds',y1,y2,y3,y4,y5⟩:=s.own j e1 hj q1;rw [q3]at y1;cases y1;rw [z,h1]at y4;cases y4
  by_cases hij:i=j
  ·by_cases hik:i=k
   ·rw [←hij,←hik]
   ·subst hij;rw [List.getElem?_set_ne hik]at q2 q4;have q3':b=a:=by
     have:(σ.set i (some (.ref a)))[i]? = some (some (.ref a)):=by simp [hlt']
     rw [this]at q3;cases q3;rfl
    exact absurd q3' (other k e2 b hik hk q2 q4)
  ·by_cases hik:i=k
   ·subst hik;rw [List.getElem?_set_ne hij]at q1 q3;have q4':b=a:=by
     have:(σ.set i (some (.ref a)))[i]? = some (some (.ref a)):=by simp [hlt']
     rw [this]at q4;cases q4;rfl
    exact absurd q4' (other j e1 b hij hj q1 q3)
   ·rw [List.getElem?_set_ne hij]at q1 q3;rw [List.getElem?_set_ne hik]at q2 q4;exact s.inj j k e1 e2 b hj hk q1 q2 q3 q4
theorem SS.change{i:Nat}{a:Addr}{d0:D}{vs:List V}{ds:List D}(s:SS g c H0 B τ σ H S)(hz:c.frz=false)(hi:zp c i)(h0:τ[i]? = some (some d0))(ha:σ[i]? = some (some (.ref a)))(r:qh g (hid H S) ds vs):SS g c H0 B (τ.set i (some (.lst ds))) σ (upd H a (.lst vs)) S∧qf (hid H S) (hid (upd H a (.lst vs)) S):=by
 have hlt:i<τ.length:=(List.getElem?_eq_some_iff.mp h0).1;obtain⟨a',vs0,ds0,y1,y2,y3,y4,y5⟩:=s.own i d0 hi h0;rw [ha]at y1;cases y1;have hh:S.h a=true:=by rw [s.hd,y2,Bool.or_true]
 have he:hid (upd H a (.lst vs)) S=hid H S:=qbx hh;have other:∀j e,i≠j→zp c j→τ[j]? = some (some e)→∀b,σ[j]? = some (some (.ref b))→b≠a:=fun j e hij hj h b hb z=>by
  subst z;exact hij (s.inj i j d0 e b hi hj h0 h ha hb)
 refine⟨⟨⟨by simp [s.se.len],fun j e hj=>?_,fun b hb n=>?_⟩,by simp [s.lenN],fun b o hb=>?_,s.sub0,s.hd,s.new,fun j e hj h=>?_,fun j k e1 e2 b hj hk q1 q2 q3 q4=>?_,fun z=>by rw [hz]at z;cases z⟩,by rw [he];exact qf.refl _⟩
 ·by_cases hij:i=j
  ·subst hij;simp [hlt]at hj;subst hj;refine⟨.ref a,ha,.inr ⟨a,vs,ds,y2,rfl,rfl,zq,by rw [he];exact r⟩,fun x hx hn=>?_⟩;obtain⟨y,hy1,hy2⟩:=hi;rw [hy1]at hx;cases hx;rw [hn]at hy2;cases hy2
  ·rw [List.getElem?_set_ne hij]at hj;obtain⟨u,z1,z2,z3⟩:=s.se.val j e hj;by_cases ho:zp c j
   ·obtain⟨b,ws,es,w1,w2,w3,w4,w5⟩:=s.own j e ho hj;rw [z1]at w1;cases w1;refine⟨_,z1,.inr ⟨b,ws,es,w2,rfl,w3,by rw [qt (other j e hij ho hj b z1)];exact w4,by rw [he];exact w5⟩,fun x hx hn=>?_⟩;obtain⟨y,hy1,hy2⟩:=ho;rw [hy1]at hx;cases hx;rw [hn]at hy2;cases hy2
   ·have st:Rep g (hid H S) e u:=by
     cases q:c.N[j]? with
     |some x=>
      refine z3 x q ?_;cases q2:c.own.contains x with
      |false=>rfl
      |true=>exact absurd ⟨x,q,q2⟩ ho
     |none=>
      have h1:=(List.getElem?_eq_some_iff.mp hj).1;have h2:=List.getElem?_eq_none_iff.mp q;have h3:=s.lenN;lia
    exact⟨u,z1,.inl (by rw [he];exact st),fun _ _ _=>by rw [he];exact st⟩
 ·by_cases hba:b=a
  ·subst hba;rw [zq]at n;cases n
  ·rw [qt hba]at n;exact s.se.sub b hb n
 ·by_cases hba:b=a
  ·subst hba;rw [s.new b y2]at hb;cases hb
  ·rw [qt hba];exact s.same _ _ hb
 ·by_cases hij:i=j
  ·subst hij;simp [hlt]at h;subst h;exact⟨a,vs,ds,ha,y2,rfl,zq,by rw [he];exact r⟩
  ·rw [List.getElem?_set_ne hij]at h;obtain⟨b,ws,es,w1,w2,w3,w4,w5⟩:=s.own j e hj h;exact⟨b,ws,es,w1,w2,w3,by rw [qt (other j e hij hj h b w1)];exact w4,by rw [he];exact w5⟩
 ·have f:∀k e,(τ.set i (some (.lst ds)))[k]? = some (some e)→∃e',τ[k]? = some (some e'):=fun k e h=>by
   by_cases hik:i=k
   ·subst hik;exact⟨d0,h0⟩
   ·rw [List.getElem?_set_ne hik]at h;exact⟨e,h⟩
  obtain⟨e1',q1'⟩:=f j e1 q1;obtain⟨e2',q2'⟩:=f k e2 q2;exact s.inj j k e1' e2' b hj hk q1' q2' q3 q4
end
noncomputable def qcf(g:Gc)(c:Cc)(E:XK)(fr:Bool)(H0:Hp)(B:Sh)(H:Hp)(S:Sh)(D:Ends):O→Prop
 | .nx τ'=>∀σ' H' S',SS g c H0 B τ' σ' H' S'→qf (hid H S) (hid H' S')→D.nx σ' H'
 | .bk τ'=>∀σ' H' S',SS g c H0 B τ' σ' H' S'→qf (hid H S) (hid H' S')→D.bk σ' H'
 | .ct τ'=>∀σ' H' S',SS g c H0 B τ' σ' H' S'→qf (hid H S) (hid H' S')→D.ct σ' H'
 | .rt d=>∀v H',qf H0 H'→Rep g (hid H' B) d v→(fr=true→Fr g H0 B H' d v)→D.rt v H'
 | .ex k=>∀H' C,qf H0 H'→g.clA k=some C→E (.ref C) none H'
 | .no=>False
section
variable(w:W)(g:Gc)(c:Cc)(E:XK)(fr:Bool)
noncomputable def tS(s:EV.S):TS:=fun D σ H=>∃H0 B τ S,SS g c H0 B τ σ H S∧qcf g c E fr H0 B H S D (evS w s τ)
noncomputable def tSs(s:Ss):TS:=fun D σ H=>∃H0 B τ S,SS g c H0 B τ σ H S∧qcf g c E fr H0 B H S D (qq w s τ)
end
structure XS(w:W)(g:Gc)(c:Cc)(E:XK)(X:Cx):Prop extends XO w g c E X where
 thr:c.thr=true→Throws X E
 exc:∀x C,c.G.lookup x=some .exc→g.clA x=some C→qlm g.K C
 cat:∀k x,w.cat k x=true→∀C D,g.clA k=some C→g.clA x=some D→PySem.W.exmOne g.K (.ref C) (.ref D)=some true
 frm:X.ex=[]∧X.stack=X.env::X.outer∧X.env.frame=some X.env.locals
 gh:∀x k,c.GH.lookup x=some k→k≠.exc∧∀v,GM w g X.prog X.w X.mg X.base (X.A.mark v) false x k
section
variable{w:W}{g:Gc}{c:Cc}{E:XK}{fr:Bool}{X:Cx}{H0:Hp}{B:Sh}{τ:Env}{σ:L2.St}{H H':Hp}{S:Sh}{Ed:Ends}
theorem qcf.up{o:O}{S':Sh}(h:qcf g c E fr H0 B H S Ed o)(e:qf (hid H S) (hid H' S')):qcf g c E fr H0 B H' S' Ed o:=by
 cases o with
 |nx t=>exact fun σ' H2 S2 s e2=>h σ' H2 S2 s (e.trans e2)
 |bk t=>exact fun σ' H2 S2 s e2=>h σ' H2 S2 s (e.trans e2)
 |ct t=>exact fun σ' H2 S2 s e2=>h σ' H2 S2 s (e.trans e2)
 |rt d=>exact h
 |ex k=>exact h
 |no=>exact h
theorem s_e{e:EV.E}{f:D→O}{Q:VK}(ss:SS g c H0 B τ σ H S)(h:qcf g c E fr H0 B H S Ed ((evE w e τ).out f))(k:∀d v H',evE w e τ=.ok d→qck g c e S H d v H'→qcf g c E fr H0 B H S Ed (f d)→Q v H'):tE w g c E e σ H Q:=by
 refine⟨τ,S,ss.se,?_⟩;cases q:evE w e τ with
 |ok d=>rw [q]at h;exact fun v H' p=>k d v H' q p h
 |ex x=>rw [q]at h;exact fun H' C s hc=>h H' C (ss.same.trans s) hc
 |no=>rw [q]at h;exact h
theorem s_t{t:T}{f:Bool→O}{Q:Bool→Hp→Prop}(ss:SS g c H0 B τ σ H S)(h:qcf g c E fr H0 B H S Ed ((evT w t τ).out f))(k:∀b H',evT w t τ=.ok b→qf H H'→qcf g c E fr H0 B H S Ed (f b)→Q b H'):tT w g c E t σ H Q:=by
 refine⟨τ,S,ss.se,?_⟩;cases q:evT w t τ with
 |ok d=>rw [q]at h;exact fun H' p=>k d H' q p h
 |ex x=>rw [q]at h;exact fun H' C s hc=>h H' C (ss.same.trans s) hc
 |no=>rw [q]at h;exact h
theorem qoo(ss:SS g c H0 B τ σ H S){b:Addr}(h:S.h b=false):B.h b=false:=by
 have:=ss.hd b;rw [h]at this;cases q:B.h b with
 |false=>rfl
 |true=>rw [q]at this;cases this
theorem qum(ss:SS g c H0 B τ σ H S):qf (hid H' S) (hid H' B):=fun b o h=>by
 obtain⟨z1,z2⟩:=quf.mp h;exact quf.mpr ⟨qoo ss z1,z2⟩
theorem qgt:∀{is:List Nat}{ds:List EV.D}{τ:Env}{x:Str},setAll is ds τ≠.ex x
 | [],[],_,_,h=>by cases h
 | [],_::_,_,_,h=>by cases h
 |_::_,[],_,_,h=>by cases h
 |i::is,d::ds,τ,x,h=>by simp only [setAll]at h;exact qgt h
theorem qoM{pos:Pos}:PS X (.Pass pos) (tS w g c E fr .pass):=PS.imp qpV fun D σ H ⟨H0,B,τ,S,ss,h⟩=>h σ H S ss (qf.refl _)
theorem qsl{pos:Pos}:PS X (.Break pos) (tS w g c E fr .brk):=PS.imp qms fun D σ H ⟨H0,B,τ,S,ss,h⟩=>h σ H S ss (qf.refl _)
theorem qpY{pos:Pos}:PS X (.Continue pos) (tS w g c E fr .cnt):=PS.imp qiw fun D σ H ⟨H0,B,τ,S,ss,h⟩=>h σ H S ss (qf.refl _)
theorem qbs{e:Expr}{t:Option Expr}{l:Nat}{env:PySem.Env}(h:qbu e=false):swapsWith e t l env=pure false:=by
 cases e<;>first|rfl|(simp [qbu]at h)
theorem qqJ{e:Expr}{ie:EV.E}{pos:Pos}(he:PE X e (tE w g c E ie))(hc:qbu e=false):PS X (.Expr e pos) (tS w g c E fr (.exp ie)):=
 PS.imp (qiy he (qbs hc)) fun D σ H ⟨H0,B,τ,S,ss,h⟩=>by
  simp only [zL,qaB,qan,qaA,zU,qaw,zQ,qaC,qav,zT,qae,qak,qah,qac,qaj,qad,qag,qai]at h;exact s_e ss h fun d v H' _ p k=>k σ H' S (ss.up p.same) (qk p.same)
theorem qoL{pos:Pos}(hf:fr=false):PS X (.Return none pos) (tS w g c E fr .retN):=PS.imp qpB fun D σ H ⟨H0,B,τ,S,ss,h⟩=>h _ _ ss.same .non (by rw [hf];intro z;cases z)
theorem qfR(ss:SS g c H0 B τ σ H S){a:Addr}{vs:List V}{ds:List EV.D}(h1:H0 a=none)(h2:H' a=some (.lst vs))(h3:qh g (hid H' (zH S a)) ds vs):Rep g (hid H' B) (.lst ds) (.ref a)∧Fr g H0 B H' (.lst ds) (.ref a):=by
 have up:qf (hid H' (zH S a)) (hid H' (zH B a)):=fun b o hb=>by
  obtain⟨z1,z2⟩:=quf.mp hb;refine quf.mpr ⟨?_,z2⟩;have z1:(S.h b||b==a)=false:=z1;simp only [Bool.or_eq_false_iff]at z1;show (B.h b||b==a)=false;rw [qoo ss z1.1,z1.2];rfl
 exact⟨.lst (SqL.of (quf.mpr ⟨ss.sub0.free h1,h2⟩)) (h3.mono (up.trans qdX)),⟨a,vs,ds,rfl,rfl,h1,h2,h3.mono up⟩⟩
theorem qhE(ss:SS g c H0 B τ σ H S){a:Addr}{vs:List V}{ds:List EV.D}(y1:S.o a=true)(y3:qh g (hid H' S) ds vs):qh g (hid H' (zH S a)) ds vs:=y3.mono fun b o hb=>by
 have hh:S.h a=true:=by rw [ss.hd,y1,Bool.or_true]
 obtain⟨z1,z2⟩:=quf.mp hb;refine quf.mpr ⟨?_,z2⟩;show (S.h b||b==a)=false;rw [z1]
 simpa using fun z:b=a=>by rw [z,hh]at z1;cases z1
theorem qlE{e:Expr}{ie:EV.E}{pos:Pos}(he:PE X e (tE w g c E ie))(hf:fr=true→fresh c ie=true):PS X (.Return (some e) pos) (tS w g c E fr (.ret ie)):=
 PS.imp (qlM he) fun D σ H ⟨H0,B,τ,S,ss,h⟩=>by
  simp only [zL,qaB,qan,qaA,zU,qaw,zQ,qaC,qav,zT,qae,qak,qah,qac,qaj,qad,qag,qai]at h;refine s_e ss h fun d v H' _ p k=>?_
  have k:∀v H',qf H0 H'→Rep g (hid H' B) d v→(fr=true→Fr g H0 B H' d v)→D.rt v H':=k;have s1:=ss.up p.same;by_cases hz:fr=true
  ·obtain⟨a,vs,ds,rfl,rfl,h1,h2,h3⟩:=p.fr (hf hz);obtain⟨r1,r2⟩:=qfR (H':=H') ss (ss.same.free h1) h2 h3;exact k _ H' s1.same r1 fun _=>r2
  ·rcases p.rb with r|⟨a,vs,ds,y1,rfl,rfl,y2,y3⟩
   ·exact k v H' s1.same (r.mono (qum ss)) fun z=>absurd z hz
   ·obtain⟨r1,r2⟩:=qfR (H':=H') ss (ss.new a y1) y2 (qhE ss y1 y3);exact k _ H' s1.same r1 fun _=>r2
theorem qkN(O:XO w g c E X){x:Str}{i:Nat}{p pos:Pos}(h:loc c x=some i)(ho:c.own.contains x=true):PS X (.Return (some (.Name x p)) pos) (tS w g c E fr (.ret (.own i))):=by
 obtain⟨h1,h2,h3,h4⟩:=zB h;refine PS.imp (qlM (qfb (i:=i) (by rw [O.N];exact h1) (by unfold Vis;rw [O.nm];exact h2) h3 h4)) fun D σ H ⟨H0,B,τ,S,ss,h⟩=>?_
 simp only [zL,qaB,qan,qaA,zU,qaw,zQ,qaC,qav,zT,qae,qak,qah,qac,qaj,qad,qag,qai,qX,zc,zb,zh,zf,qY,ze,zi,zg,qK,qB,qJ,qD,qF,qW,qI,qC,qw,qL,qH,qP,qr,qA,qR,qE,qx,qO,qN,qS,qM,qQ,qU,qV,qG,qT,zY]at h;cases q:τ[i]? with
 |none=>rw [q]at h;exact h.elim
 |some o=>
  cases o with
  |none=>rw [q]at h;exact h.elim
  |some d=>
   rw [q]at h;obtain⟨a,vs,ds,z1,y1,rfl,y2,y3⟩:=ss.own i d ⟨x,h1,ho⟩ q;obtain⟨r1,r2⟩:=qfR (H':=H) ss (ss.new a y1) y2 (qhE ss y1 y3);exact⟨_,z1,h _ H ss.same r1 fun _=>r2⟩
theorem qdQ{e:Expr}{ie:EV.E}{i:Nat}{st:Stmt}{te:TE}(hp:PS X st (qkt te (qcH i)))(hr:∀σ H Q,tE w g c E ie σ H Q→te σ H Q)(hlt:i<c.N.length)(hk:(zp c i∧fresh c ie=true∧c.frz=false)∨(¬ zp c i∧esc ie=true)):PS X st (tS w g c E fr (.set (.nm i) ie)):=
 PS.imp hp fun D σ H ⟨H0,B,τ,S,ss,h⟩=>by
  simp only [zL,qaB,qan,qaA,zU,qaw,zQ,qaC,qav,zT,qae,qak,qah,qac,qaj,qad,qag,qai,store]at h;refine hr σ H _ (s_e ss h fun d v H' _ p k=>?_);have k:∀σ' H2 S2,SS g c H0 B (τ.set i (some d)) σ' H2 S2→qf (hid H S) (hid H2 S2)→D.nx σ' H2:=k;rcases hk with ⟨ho,hf,hfz⟩|⟨ho,he⟩
  ·obtain⟨S',s1,s2⟩:=ss.setOwn hfz ho (by rw [ss.lenN];exact hlt) p.same (p.fr hf);exact k _ _ S' s1 s2
  ·exact k _ _ S ((ss.up p.same).set ho (p.st he)) (qk p.same)
theorem qiz(O:XO w g c E X){tg e:Expr}{itg:Tg}{ie:EV.E}{pos:Pos}(he:PE X e (tE w g c E ie))(hg:PG X tg (gT X.K itg))(hf:qdN c itg)(hes:esc ie=true)(hs:swapsWithSole [tg] e pos.line X.env=pure false)(hw:swappedStores [tg] e X.env=pure none)(h1:(assignEach [tg] X.env).map (·.2)=[assign tg X.env]) :
  PS X (.Assign [tg] e pos) (tS w g c E fr (.set itg ie)):=
 PS.imp (qlT he hg hs hw h1) fun D σ H ⟨H0,B,τ,S,ss,h⟩=>by
  simp only [zL,qaB,qan,qaA,zU,qaw,zQ,qaC,qav,zT,qae,qak,qah,qac,qaj,qad,qag,qai]at h;refine s_e ss h fun d v H' _ p k=>?_
  cases q:store itg d τ with
  |ok τ'=>
   rw [q]at k;exact(ss.up p.same).store O.K hf (p.st hes) q fun σ' s1=>k σ' H' S s1 (qk p.same)
  |ex z=>cases itg<;>simp only [store]at q<;>first|cases q|(split at q<;>first|cases q|(split at q<;>first|(exact absurd q (qgt))|cases q))
  |no=>rw [q]at k;exact k.elim
theorem qre(O:XO w g c E X)(hc:X.calm=true){x y:Str}{i j:Nat}{a b:Expr}{ia ib:EV.E}{px py pt pos:Pos}{kt k2 pt2}(hx:zX c x=some i)(hy:zX c y=some j)(lx:c.nm.lookup x=some .local)(ly:c.nm.lookup y=some .local)(hij:i≠j)
  (ha:PE X a (tE w g c E ia)) (hb:PE X b (tE w g c E ib)) (hsa:isStar a=false) (hsb:isStar b=false) (hfa:[a,b].all (foldedForSure 8)=false) (hca:[a,b].all (constantsAlone 8)=false) (hl:(px.line==py.line)=true) (hi:¬ zp c i) (hea:esc ia=true) (hk:(zp c j∧fresh c ib=true∧c.frz=false)∨(¬ zp c j∧esc ib=true)) :
  PS X (.Assign [.Tuple [.Name x px,.Name y py] kt pt] (.Tuple [a,b] k2 pt2) pos) (tS w g c E fr (.par i j ia ib)):=fun pins s σ H D I ⟨H0,B,τ,S,ss,h⟩=>by
 simp only [zL,qaB,qan,qaA,zU,qaw,zQ,qaC,qav,zT,qae,qak,qah,qac,qaj,qad,qag,qai]at h;exact False.elim h
theorem qtB{env:PySem.Env}{x y z:Str}{px py pz pt pt2:Pos}{kt k2:Nat}{a b d:Expr}(bk:env.blockKind=.function)(kx:env.kindOf x=some .local)(ky:env.kindOf y=some .local)(kz:env.kindOf z=some .local)(hl:px.line=py.line)(hl':px.line=pz.line)(hxy:x≠y)(hxz:x≠z)(hyz:y≠z)(ha:isStar a=false)(hb:isStar b=false)(hd:isStar d=false)(h1:[a,b,d].all (foldedForSure 8)=false)(h2:[a,b,d].all (constantsAlone 8)=false) :
  swappedStores [.Tuple [.Name x px,.Name y py,.Name z pz] kt pt] (.Tuple [a,b,d] k2 pt2) env=pure (some [x,y,z]):=by
 have ed:[x,y,z].eraseDups=[x,y,z]:=by
  have e1:(y==x)=false:=by simpa using fun z:y=x=>hxy z.symm
  have e2:(z==x)=false:=by simpa using fun w:z=x=>hxz w.symm
  have e3:(z==y)=false:=by simpa using fun w:z=y=>hyz w.symm
  simp [List.eraseDups_cons,e1,e2,e3]
 have b1:(env.blockKind != .function)=false:=by rw [bk];rfl
 have hp:(Expr.Name x px).pos=px:=rfl;unfold swappedStores;simp only [b1,List.filterMap_cons,List.filterMap_nil,List.head?_cons,Option.map_some,Option.getD_some,hp,kx,ky,kz,←hl,←hl',beq_self_eq_true,Bool.and_self,if_true,ed,h1,h2];rw [if_neg (by simp),if_neg,if_neg (by simp),if_neg Bool.false_ne_true,if_neg Bool.false_ne_true];simp only [List.any_cons,List.any_nil,Bool.or_false,Bool.or_eq_true];rintro(h|h|h)
 ·split at h
  ·cases ha
  ·cases h
 ·split at h
  ·cases hb
  ·cases h
 ·split at h
  ·cases hd
  ·cases h
theorem qou(O:XO w g c E X)(hc:X.calm=true){x y z:Str}{i j l:Nat}{a b d:Expr}{ia ib id:EV.E}{px py pz pt pos:Pos}{kt k2 pt2}(hx:zX c x=some i)(hy:zX c y=some j)(hz:zX c z=some l)(lx:c.nm.lookup x=some .local)(ly:c.nm.lookup y=some .local)(lz:c.nm.lookup z=some .local)(hij:i≠j)(hil:i≠l)(hjl:j≠l)
  (ha:PE X a (tE w g c E ia)) (hb:PE X b (tE w g c E ib)) (hd:PE X d (tE w g c E id)) (hsa:isStar a=false) (hsb:isStar b=false) (hsd:isStar d=false) (hfa:[a,b,d].all (foldedForSure 8)=false) (hca:[a,b,d].all (constantsAlone 8)=false) (hl:(px.line==py.line)=true) (hl':(px.line==pz.line)=true) (hi:¬ zp c i) (hj:¬ zp c j) (hk:¬ zp c l) (hea:esc ia=true) (heb:esc ib=true) (hed:esc id=true) :
  PS X (.Assign [.Tuple [.Name x px,.Name y py,.Name z pz] kt pt] (.Tuple [a,b,d] k2 pt2) pos) (tS w g c E fr (.par3 i j l ia ib id)):=by
 obtain⟨l1,_⟩:=zy hx;obtain⟨l3,_⟩:=zB l1;obtain⟨m1,_⟩:=zy hy;obtain⟨m3,_⟩:=zB m1;obtain⟨n1,_⟩:=zy hz;obtain⟨n3,_⟩:=zB n1;have hst:=qg (es:=[]) (env:=X.env) hsd;have hst2:=qg (es:=[d]) (env:=X.env) hsb;have hst3:=qg (es:=[b,d]) (env:=X.env) hsa;have hxy:x≠y:=fun q=>by subst q;rw [hx]at hy;cases hy;exact hij rfl
 have hxz:x≠z:=fun q=>by subst q;rw [hx]at hz;cases hz;exact hil rfl
 have hyz:y≠z:=fun q=>by subst q;rw [hy]at hz;cases hz;exact hjl rfl
 have hw:swappedStores [.Tuple [.Name x px,.Name y py,.Name z pz] kt pt] (.Tuple [a,b,d] k2 pt2) X.env=pure (some [x,y,z]):=by
  refine qtB ?_ ?_ ?_ ?_ (eq_of_beq hl) (eq_of_beq hl') hxy hxz hyz hsa hsb hsd hfa hca
  ·unfold Env.blockKind;rw [O.kind];rfl
  ·show X.env.scope.names.lookup x=_;rw [O.nm,lx]
  ·show X.env.scope.names.lookup y=_;rw [O.nm,ly]
  ·show X.env.scope.names.lookup z=_;rw [O.nm,lz]
 refine PS.imp (qoV (i:=i) (j:=j) (k:=l) hc (by rw [O.N];exact O.nd) (by rw [O.N];exact l3) (by rw [O.N];exact m3) (by rw [O.N];exact n3) hij hil hjl (by rw [O.nm];exact lx) (by rw [O.nm];exact ly) (by rw [O.nm];exact lz) (zj ha (zj hb (zj hd zP hst) hst2) hst3) hw rfl) fun D σ H ⟨H0,B,τ,S,ss,h⟩=>?_
 simp only [zL,qaB,qan,qaA,zU,qaw,zQ,qaC,qav,zT,qae,qak,qah,qac,qaj,qad,qag,qai]at h;refine s_e ss h fun d1 v H1 _ p1 k1=>?_
 refine s_e (ss.up p1.same) (qcf.up k1 (qk p1.same)) fun d2 v2 H2 _ p2 k2=>?_
 have ss2:=(ss.up p1.same).up p2.same;refine s_e ss2 (qcf.up k2 (qk p2.same)) fun d3 v3 H3 _ p3 k3=>?_
 refine⟨v,v2,v3,rfl,?_⟩;have k3:∀σ' H' S',SS g c H0 B (((τ.set i (some d1)).set j (some d2)).set l (some d3)) σ' H' S'→qf (hid H2 S) (hid H' S')→D.nx σ' H':=k3;have s1:=(ss.up p1.same).set hi (p1.st hea);have s2:=(s1.up p2.same).set hj (p2.st heb);exact k3 _ _ S ((s2.up p3.same).set hk (p3.st hed)) (qk p3.same)
end
section
variable{w:W}{g:Gc}{c:Cc}{E:XK}{fr:Bool}{X:Cx}{H0:Hp}{B:Sh}{τ:Env}{σ:L2.St}{H H':Hp}{S:Sh}{Ed:Ends}
theorem qiK{i:Nat}{d:EV.D}(h:zY τ i=.ok d):τ[i]? = some (some d):=by
 unfold zY at h;split at h
 ·rename_i q;cases h;exact q
 ·cases h
theorem qrG(O:XO w g c E X)(hfz:c.frz=false){x:Str}{i:Nat}{a:Expr}{ia:EV.E}{p ap cp pos:Pos}(h:loc c x=some i)(ho:c.own.contains x=true)(ha:PE X a (tE w g c E ia))(hes:esc ia=true)(hs:isStar a=false)(hl:(ap.endLine==cp.line)=true) :
  PS X (.Expr (.Call (.Attribute (.Name x p) "append" ap) [a] [] cp) pos) (tS w g c E fr (.app i ia)):=by
 obtain⟨h1,h2,h3,h4⟩:=zB h;have hv:PE X (.Name x p) (qhj i):=qfb (i:=i) (by rw [O.N];exact h1) (by unfold Vis;rw [O.nm];exact h2) h3 h4;have hst:=qg (es:=[]) (env:=X.env) hs;have hb:=qtJ (X:=X) (apos:=ap) (cpos:=cp) PySem.F.plainAttrs_list PySem.F.slot_list_append PySem.F.type_list_append qgs hv (zj ha zP hst) rfl (by rw [hst];rfl) hl hst rfl;refine PS.imp (qiy hb rfl) fun D σ H ⟨H0,B,τ,S,ss,k⟩=>?_
 simp only [zL,qaB,qan,qaA,zU,qaw,zQ,qaC,qav,zT,qae,qak,qah,qac,qaj,qad,qag,qai]at k;cases q:zY τ i with
 |ex z=>unfold zY at q;split at q<;>cases q
 |no=>rw [q]at k;exact k.elim
 |ok d0=>
  rw [q]at k;have q':=qiK q;have hi:zp c i:=⟨x,h1,ho⟩
  obtain⟨ad,vs,ds,z1,y1,rfl,y2,y3⟩:=ss.own i d0 hi q';refine⟨_,z1,.inl ⟨rfl,vs,SqL.of y2⟩,s_e ss k fun d v H1 _ p1 k1=>?_⟩;simp only at k1;by_cases hz:ds.length<SZ
  ·rw [if_pos hz]at k1;have s1:=ss.up p1.same;have y2':=p1.same _ _ y2;obtain⟨s2,s3⟩:=s1.change (vs:=vs++[v]) (ds:=ds++[d]) hfz hi q' z1 ((y3.mono (qk p1.same)).append (.cons (p1.st hes) .nil));exact⟨ad,vs,v,rfl,rfl,y2',by rw [←y3.length,sizeLine_eq];unfold SZ at hz;lia,k1 _ _ S s2 ((qk p1.same).trans s3)⟩
  ·rw [if_neg hz]at k1;exact k1.elim
theorem qpL(O:XO w g c E X)(hfz:c.frz=false){x:Str}{i:Nat}{k e:Expr}{ik ie:EV.E}{p sp pos:Pos}(h:loc c x=some i)(ho:c.own.contains x=true)(hk:PE X k (tE w g c E ik))(he:PE X e (tE w g c E ie))(hes:esc ie=true)(hsl:isSlice k=false)(hc:qbu e=false) :
  PS X (.Assign [.Subscript (.Name x p) k sp] e pos) (tS w g c E fr (.seti i ik ie)):=by
 obtain⟨h1,h2,h3,h4⟩:=zB h;have hv:PE X (.Name x p) (qhj i):=qfb (i:=i) (by rw [O.N];exact h1) (by unfold Vis;rw [O.nm];exact h2) h3 h4;have hg:PG X (.Subscript (.Name x p) k sp) (qqr (qhj i) (tE w g c E ik) qok):=qrV hv hk set_list (by intro v;cases k<;>first|rfl|(simp [isSlice]at hsl));refine PS.imp (qlT he hg (by simp only [swapsWithSole];exact qbs hc) rfl rfl) fun D σ H ⟨H0,B,τ,S,ss,k⟩=>?_
 simp only [zL,qaB,qan,qaA,zU,qaw,zQ,qaC,qav,zT,qae,qak,qah,qac,qaj,qad,qag,qai]at k;refine s_e ss k fun d v H1 _ p1 k1=>?_
 cases q:zY τ i with
 |ex z=>unfold zY at q;split at q<;>cases q
 |no=>rw [q]at k1;exact k1.elim
 |ok d0=>
  rw [q]at k1;have q':=qiK q;have hi:zp c i:=⟨x,h1,ho⟩
  have s1:=ss.up p1.same;obtain⟨ad,vs,ds,z1,y1,rfl,y2,y3⟩:=s1.own i d0 hi q';refine⟨_,z1,s_e s1 (qcf.up k1 (qk p1.same)) fun n vn H2 _ p2 k2=>?_⟩;cases n with
  |int j=>
   simp only at k2;cases qj:ixN ds.length j with
   |none=>rw [qj]at k2;exact k2.elim
   |some m=>
    rw [qj]at k2;have s2:=s1.up p2.same;have y2':=p2.same _ _ y2;obtain⟨s3,s4⟩:=s2.change (vs:=vs.set m v) (ds:=ds.set m d) hfz hi q' z1 ((y3.mono (qk p2.same)).set ((p1.st hes).mono (qk p2.same)) m);exact⟨ad,vs,j,m,rfl,p2.rb.int,y2',by rw [←y3.length];exact qj,k2 _ _ S s3 ((qk p2.same).trans s4)⟩
  |_=>exact k2.elim
theorem qiY:PSs X [] (tSs w g c E fr .nil):=PSs.imp qoJ fun D σ H ⟨H0,B,τ,S,ss,h⟩=>by
 simp only [qq]at h;exact h σ H S ss (qf.refl _)
theorem qhz{s:Stmt}{r:List Stmt}{is:EV.S}{ir:Ss}(h1:PS X s (tS w g c E fr is))(h2:PSs X r (tSs w g c E fr ir)):PSs X (s::r) (tSs w g c E fr (.cons is ir)):=
 PSs.imp (qhV h1 h2) fun D σ H ⟨H0,B,τ,S,ss,h⟩=>by
  simp only [qq]at h;refine⟨H0,B,τ,S,ss,?_⟩;cases q:evS w is τ with
  |nx τ'=>rw [q]at h;exact fun σ' H' S' s' e=>⟨H0,B,τ',S',s',qcf.up h e⟩
  |bk τ'=>rw [q]at h;exact h
  |ct τ'=>rw [q]at h;exact h
  |rt d=>rw [q]at h;exact h
  |ex k=>rw [q]at h;exact h
  |no=>rw [q]at h;exact h
theorem qsk{t:Expr}{a b:List Stmt}{it:T}{ia ib:Ss}{pos:Pos}(ht:PT X t (tT w g c E it))(ha:PSs X a (tSs w g c E fr ia))(hb:PSs X b (tSs w g c E fr ib)):PS X (.If t a b pos) (tS w g c E fr (.ite it ia ib)):=
 PS.imp (qtd ht ha hb) fun D σ H ⟨H0,B,τ,S,ss,h⟩=>by
  simp only [zL,qaB,qan,qaA,zU,qaw,zQ,qaC,qav,zT,qae,qak,qah,qac,qaj,qad,qag,qai]at h;refine s_t ss h fun z H1 _ s1 k1=>?_
  cases z with
  |true=>exact⟨H0,B,τ,S,ss.up s1,qcf.up k1 (qk s1)⟩
  |false=>exact⟨H0,B,τ,S,ss.up s1,qcf.up k1 (qk s1)⟩
theorem PS.nox'{st:Stmt}{t:TS}(h:PS X.nox st t):PS X st t:=fun pins s σ H D I hw=>
 wpAny_mono (h pins s σ H D (I.wish _) hw) (fun _ _ q=>q.unwish) fun _ _ z=>False.elim z
theorem XO.nox(O:XO w g c E X):XO w g c E0 X.nox:=⟨O.K,O.nm,O.N,O.nd,O.calm,O.units,O.fn,O.kind,qls rfl rfl,O.gok,O.fns,O.sub⟩
theorem XS.nox(O:XS w g c E X):XS w g c E0 X.nox:=⟨O.toXO.nox,fun _ _ _ _ _ _ _ _ _ _ _ z=>False.elim z,O.exc,O.cat,O.frm,O.gh⟩
theorem qhR{o:O}(h:qcf g c E fr H0 B H S Ed o.noEx):qcf g c E0 fr H0 B H S Ed o∧(∀k,o≠.ex k)∧o≠.no:=by
 cases o with
 |ex k=>exact h.elim
 |no=>exact h.elim
 |nx t=>exact⟨h,(fun _ z=>by cases z),(fun z=>by cases z)⟩
 |bk t=>exact⟨h,(fun _ z=>by cases z),(fun z=>by cases z)⟩
 |ct t=>exact⟨h,(fun _ z=>by cases z),(fun z=>by cases z)⟩
 |rt t=>exact⟨h,(fun _ z=>by cases z),(fun z=>by cases z)⟩
noncomputable def frozen(c:Cc)(b:Bool):Cc:={c with frz:=c.frz||b}
theorem XS.froze(O:XS w g c E X){b:Bool}:XS w g (frozen c b) E X:=
 ⟨⟨O.K,O.nm,O.N,O.nd,O.calm,O.units,O.fn,O.kind,O.pass,O.gok,O.fns,O.sub⟩,O.thr,O.exc,O.cat,O.frm,O.gh⟩
noncomputable def qcQ(B:Sh)(b:Bool)(σ:L2.St)(H:Hp):Sh:=if b=true then ⟨B.o,B.h,σ,H⟩else B
theorem qhA{b:Bool}:(qcQ B b σ H).h=B.h:=by unfold qcQ;split<;>rfl
theorem qpm{b:Bool}{H1:Hp}:hid H1 (qcQ B b σ H)=hid H1 B:=by funext a;unfold hid;rw [qhA]
theorem SS.froze(b:Bool)(ss:SS g c H0 B τ σ H S):SS g (frozen c b) H0 (qcQ B b σ H) τ σ H S:=by
 refine⟨⟨ss.se.len,ss.se.val,ss.se.sub⟩,ss.lenN,ss.same,?_,?_,ss.new,ss.own,ss.inj,fun z=>?_⟩
 ·unfold qcQ;split
  ·exact ss.sub0
  ·exact ss.sub0
 ·rw [qhA];exact ss.hd
 ·cases b with
  |true=>exact⟨fun i _=>rfl,qf.refl _⟩
  |false=>
   have z:(c.frz||false)=true:=z;rw [Bool.or_false]at z;exact ss.frz z
theorem SS.thaw{b:Bool}{σ1:L2.St}{H1:Hp}{τ1:Env}{S1:Sh}(s0:SS g c H0 B τ1 σ1 H1 S1)(ss:SS g (frozen c b) H0 (qcQ B b σ1 H1) τ σ H S):SS g c H0 B τ σ H S:=by
 refine⟨⟨ss.se.len,ss.se.val,ss.se.sub⟩,ss.lenN,ss.same,s0.sub0,?_,ss.new,ss.own,ss.inj,fun z=>?_⟩
 ·have:=ss.hd;rw [qhA]at this;exact this
 ·have f:=ss.frz (by show (c.frz||b)=true;rw [z];rfl);cases b with
  |true=>exact⟨fun i hi=>(f.1 i hi).trans ((s0.frz z).1 i hi),(s0.frz z).2.trans f.2⟩
  |false=>exact f
theorem SS.iced{b:Bool}{σ1:L2.St}{H1:Hp}(hb:b=true)(ss:SS g (frozen c b) H0 (qcQ B b σ1 H1) τ σ H S):qf H1 H:=by
 subst hb;exact(ss.frz (by show (c.frz||true)=true;rw [Bool.or_true])).2
theorem qsn(O:XO w g c E X)(hc:X.calm=true){tg it:Expr}{b:List Stmt}{itg:Tg}{iit:It}{ib:Ss}{pos:Pos}(hi:PI X.nox tg it (tIt w g c E0 iit))(hg:PG X.nox tg (gT X.K itg))(hf:qdN c itg)(hb:PSs X.nox b (tSs w g (frozen c (owned iit)) E0 fr ib))(hs:zd it=true) :
  PS X (.For tg it b [] pos) (tS w g c E fr (.for itg iit ib)):=by
 refine PS.nox' (PS.imp (qqN (X:=X.nox) PassesOwn.never hc hi hg hb (fun x=>by cases it<;>first|rfl|(simp [zd]at hs))) fun D σ H ⟨H0,B,τ,S,ss,h⟩=>?_);simp only [zL,qaB,qan,qaA,zU,qaw,zQ,qaC,qav,zT,qae,qak,qah,qac,qaj,qad,qag,qai]at h;obtain⟨h,nex,nno⟩:=qhR h;cases q:evI w iit τ with
 |ex z=>rw [q]at nex;exact absurd rfl (nex z)
 |no=>rw [q]at nno;exact absurd rfl nno
 |ok ds=>
  rw [q]at h nex nno;simp only [R.out_ok]at h nex nno;refine⟨τ,S,ss.se,?_⟩;rw [q];intro J H1 s1 kW kS;generalize hr:qaX itg (fun σ=>qq w ib σ) ds τ=r at h nex nno;refine⟨fun i m σ' H'=>m=ds.length-i∧i≤ds.length∧∃τ' S',SS g (frozen c (owned iit)) H0 (qcQ B (owned iit) σ H1) τ' σ' H' S'∧qf (hid H1 S) (hid H' S')∧qaX itg (fun σ=>qq w ib σ) (ds.drop i) τ'=r,⟨ds.length,rfl,Nat.zero_le _,τ,S,(ss.up s1).froze _,qf.refl _,hr⟩,?_⟩;rintro i m σ' H' ⟨rfl,hi',τ',S',ss',e',hl⟩;have gg:Goes g J ds H' S':=by
   cases hw:owned iit with
   |false=>exact kS hw H' S' e' ss'.se.sub
   |true=>exact kW H' S' (ss'.iced hw) e' ss'.se.sub
  obtain⟨g1,g2⟩:=gg;have eH:qf (hid H S) (hid H' S'):=(qk s1).trans e';by_cases hlt:i<ds.length
  ·have hd:ds[i]? = some ds[i]:=List.getElem?_eq_getElem hlt;obtain⟨go1,go2⟩:=g2 i ds[i] hd;refine .inr ⟨go1,fun σ2 H2=>∃τ' S',SS g (frozen c (owned iit)) H0 (qcQ B (owned iit) σ H1) τ' σ2 H2 S'∧qf (hid H1 S) (hid H2 S')∧qaX itg (fun σ=>qq w ib σ) (ds.drop (i+1)) τ'=r,fun σ2 H2 z=>⟨ds.length-(i+1),by lia,rfl,hlt,z⟩,fun x H2 hy=>?_⟩;obtain⟨s2,rx⟩:=go2 x H2 hy;rw [List.drop_eq_getElem_cons hlt]at hl;simp only [qaX]at hl;cases q1:store itg ds[i] τ' with
   |ex z=>rw [q1]at hl;exact absurd hl.symm (nex z)
   |no=>rw [q1]at hl;exact absurd hl.symm nno
   |ok τ1=>
    rw [q1]at hl;simp only [R.out_ok]at hl;refine(ss'.up s2).store O.K hf rx q1 fun σ1 ss1=>⟨H0,_,τ1,S',ss1,?_⟩
    cases q2:qq w ib τ1 with
    |nx τ2=>rw [q2]at hl;exact fun σ2 H3 S3 s3 e3=>⟨τ2,S3,s3,(e'.trans (qk s2)).trans e3,hl⟩
    |ct τ2=>rw [q2]at hl;exact fun σ2 H3 S3 s3 e3=>⟨τ2,S3,s3,(e'.trans (qk s2)).trans e3,hl⟩
    |bk τ2=>
     rw [q2]at hl;simp only at hl;rw [←hl]at h;exact fun σ2 H3 S3 s3 e3=>h σ2 H3 S3 ((ss.up s1).thaw s3) ((eH.trans (qk s2)).trans e3)
    |rt d=>
     rw [q2]at hl;simp only at hl;rw [←hl]at h;refine fun v H3 s3 r3 f3=>h v H3 s3 (by rw [qpm]at r3;exact r3) fun z=>?_
     have f3:=f3 z;unfold qcQ at f3;split at f3
     ·exact f3
     ·exact f3
    |ex z=>rw [q2]at hl;exact absurd hl.symm (nex z)
    |no=>rw [q2]at hl;exact absurd hl.symm nno
  ·have e:i=ds.length:=by lia
   subst e;rw [List.drop_length]at hl;simp only [qaX]at hl;rw [←hl]at h;exact .inl ⟨g1 ds.length (Nat.le_refl _),h σ' H' S' ((ss.up s1).thaw ss') eH⟩
theorem qnr{t:Expr}{b:List Stmt}{it:T}{ib:Ss}{pos:Pos}(ht:PT X.nox t (tT w g c E0 it))(hb:PSs X.nox b (tSs w g c E0 fr ib)):PS X (.While t b [] pos) (tS w g c E fr (.while it ib)):=by
 refine PS.nox' (PS.imp (qml (X:=X.nox) PassesOwn.never ht hb) fun D σ H ⟨H0,B,τ,S,ss,h⟩=>?_);simp only [zL,qaB,qan,qaA,zU,qaw,zQ,qaC,qav,zT,qae,qak,qah,qac,qaj,qad,qag,qai]at h;obtain⟨h,nex,nno⟩:=qhR h;generalize hr:qbq (fun σ=>evT w it σ) (fun σ=>qq w ib σ) qeZ τ=r at h nex nno;refine⟨fun m σ' H'=>∃τ' S',SS g c H0 B τ' σ' H' S'∧qf (hid H S) (hid H' S')∧qbq (fun σ=>evT w it σ) (fun σ=>qq w ib σ) m τ'=r,⟨qeZ,τ,S,ss,qf.refl _,hr⟩,?_⟩;rintro m σ' H' ⟨τ',S',ss',e',hl⟩;cases m with
 |zero=>simp only [qbq]at hl;exact absurd hl.symm nno
 |succ m=>
  simp only [qbq]at hl;cases q:evT w it τ' with
  |ex z=>rw [q]at hl;exact absurd hl.symm (nex z)
  |no=>rw [q]at hl;exact absurd hl.symm nno
  |ok z=>
   rw [q]at hl;simp only [R.out_ok]at hl;refine⟨τ',S',ss'.se,?_⟩;rw [q];intro H1 s1;cases z with
   |false=>
    simp only [Bool.false_eq_true,if_false]at hl;rw [if_neg Bool.false_ne_true];rw [←hl]at h;exact h σ' H1 S' (ss'.up s1) (e'.trans (qk s1))
   |true=>
    simp only [if_true]at hl;rw [if_pos rfl];refine⟨fun σ2 H2=>∃τ' S',SS g c H0 B τ' σ2 H2 S'∧qf (hid H S) (hid H2 S')∧qbq (fun σ=>evT w it σ) (fun σ=>qq w ib σ) m τ'=r,fun σ2 H2 z=>⟨m,Nat.lt_succ_self m,z⟩,H0,B,τ',S',ss'.up s1,?_⟩;have e1:=e'.trans (qk (S:=S') s1);cases q2:qq w ib τ' with
    |nx τ2=>rw [q2]at hl;exact fun σ2 H3 S3 s3 e3=>⟨τ2,S3,s3,e1.trans e3,hl⟩
    |ct τ2=>rw [q2]at hl;exact fun σ2 H3 S3 s3 e3=>⟨τ2,S3,s3,e1.trans e3,hl⟩
    |bk τ2=>
     rw [q2]at hl;simp only at hl;rw [←hl]at h;exact fun σ2 H3 S3 s3 e3=>h σ2 H3 S3 s3 (e1.trans e3)
    |rt d=>rw [q2]at hl;simp only at hl;rw [←hl]at h;exact h
    |ex z=>rw [q2]at hl;exact absurd hl.symm (nex z)
    |no=>rw [q2]at hl;exact absurd hl.symm nno
end
section
variable{w:W}{g:Gc}{c:Cc}{E:XK}{fr:Bool}{X:Cx}{H0:Hp}{B:Sh}{τ:Env}{σ:L2.St}{H H':Hp}{S:Sh}{Ed:Ends}
theorem qlI{s:Stmt}:PS X s (tS w g c E fr .unk):=fun pins s σ H D I ⟨H0,B,τ,S,ss,h⟩=>by
 simp only [zL,qaB,qan,qaA,zU,qaw,zQ,qaC,qav,zT,qae,qak,qah,qac,qaj,qad,qag,qai]at h;exact h.elim
theorem qrN(O:XO w g c E X)(hfz:c.frz=false){x:Str}{i:Nat}{k a:Expr}{ik ia:EV.E}{p ap cp pos:Pos}(h:loc c x=some i)(ho:c.own.contains x=true)(hk:PE X k (tE w g c E ik))(ha:PE X a (tE w g c E ia))(hes:esc ia=true)(hsk:isStar k=false)(hs:isStar a=false)(hl:(ap.endLine==cp.line)=true) :
  PS X (.Expr (.Call (.Attribute (.Name x p) "insert" ap) [k,a] [] cp) pos) (tS w g c E fr (.ins i ik ia)):=fun pins s σ H D I ⟨H0,B,τ,S,ss,h⟩=>by
 simp only [zL,qaB,qan,qaA,zU,qaw,zQ,qaC,qav,zT,qae,qak,qah,qac,qaj,qad,qag,qai]at h;exact False.elim h
end
theorem qkh{e:Expr}{x:Str}{ap cp:Pos}{k a:Expr}(h:qop e=some (x,ap,k,a,cp)):∃p,e=.Call (.Attribute (.Name x p) "insert" ap) [k,a] [] cp:=by cases h
theorem qle{x y:Str}{px py pt pt2:Pos}{kt k2:Nat}{a b:Expr}{env:PySem.Env}(h:env.kindOf x≠some .local):swappedStores [.Tuple [.Name x px,.Name y py] kt pt] (.Tuple [a,b] k2 pt2) env=pure none:=by
 have hx:(env.kindOf x==some NameKind.local)=false:=by simpa using h
 unfold swappedStores;simp only;split
 ·rfl
 ·split
  ·rfl
  ·split
   ·rfl
   ·rename_i hq
    exfalso;refine hq ?_;rw [List.filterMap_cons_none (by simp only [hx,Bool.false_and];rfl)];have:∀l:List Expr,∀f:Expr→Option Str,(l.filterMap f).length≤l.length:=fun l f=>List.length_filterMap_le f l
    simp only [Bool.or_eq_true,bne_iff_ne,ne_eq];left;intro z;have q:([Expr.Name x px,Expr.Name y py]:List Expr).length≤([Expr.Name y py]:List Expr).length:=by rw [←z];exact this _ _
    simp at q
theorem qlb{ts:List Expr}{k:Nat}{p:Pos}{e:Expr}{env:PySem.Env}(h:isTup e=true→qjr e=true):swappedStores [.Tuple ts k p] e env=pure none:=by
 cases e<;>first|rfl|skip
 rename_i vs k2 p2
 have h:vs.all (foldedForSure 8)=true:=h rfl;unfold swappedStores;simp only [h,if_true];split
 ·rfl
 ·split
  ·rfl
  ·split
   ·rfl
   ·rfl
theorem qhq{ts:List Expr}{e:Expr}{x y:Str}{a b:Expr}(h:qrT ts e=some (x,y,a,b)):∃px py k2 pt2,ts=[.Name x px,.Name y py]∧e=.Tuple [a,b] k2 pt2∧isStar a=false∧isStar b=false∧[a,b].all (foldedForSure 8)=false∧[a,b].all (constantsAlone 8)=false∧(px.line==py.line)=true:=by cases h
theorem qlF{ts:List Expr}{e:Expr}{x y z:Str}{a b d:Expr}(h:qjO ts e=some (x,y,z,a,b,d)):∃px py pz k2 pt2,ts=[.Name x px,.Name y py,.Name z pz]∧e=.Tuple [a,b,d] k2 pt2∧isStar a=false∧isStar b=false∧isStar d=false∧[a,b,d].all (foldedForSure 8)=false∧[a,b,d].all (constantsAlone 8)=false∧(px.line==py.line)=true∧(px.line==pz.line)=true:=by
 unfold qjO at h;split at h
 ·split at h
  ·split at h
   ·rename_i hc
    simp only [Bool.and_eq_true,Bool.not_eq_true']at hc;cases h;exact⟨_,_,_,_,_,rfl,rfl,hc.1.1.1.1.1.1,hc.1.1.1.1.1.2,hc.1.1.1.1.2,hc.1.1.1.2,hc.1.1.2,hc.1.2,hc.2⟩
   ·cases h
  ·cases h
 ·cases h
section
variable{w:W}{g:Gc}{c:Cc}{E:XK}{fr:Bool}{X:Cx}
theorem qky(O:XO w g c E X){n:Nat}(hn:n≤100000){x:Str}{i:Nat}{elt:Expr}{gs:List Comprehension}{sc:Scope}{p p' pos:Pos}{ie:EV.E}(hl:zX c x=some i)(h:cE n c (.ListComp elt gs sc p)=some ie)(htw:qfH (.ListComp elt gs sc p)=false)(hk:(zp c i∧fresh c ie=true∧c.frz=false)∨(¬ zp c i∧esc ie=true)) :
  PS X (.Assign [.Name x p'] (.ListComp elt gs sc p) pos) (tS w g c E fr (.set (.nm i) ie)):=by
 obtain⟨l1,l2⟩:=zy hl;obtain⟨l3,_⟩:=zB l1;have hlt:i<c.N.length:=(List.getElem?_eq_some_iff.mp l3).1;have hN:X.N.Nodup:=by rw [O.N];exact O.nd
 have hix:X.N[i]? = some x:=by rw [O.N];exact l3
 have hx:L2.Loc X.env.scope x:=by unfold L2.Loc;rw [O.nm];rcases l2 with z|z;exact .inl z;exact .inr z.1
 have hf:X.fn x=true∨X.env.scope.names.lookup x=some .local:=by
  rcases l2 with z|z
  ·exact .inr (by rw [O.nm];exact z)
  ·exact .inl (O.fn x z.2)
 cases hb:(X.env.blockKind==.function&&X.env.kindOf x==some .local&&p'.line==p.line && !(sc.names.any fun(n,k)=>n==x&&(k==.local||k==.cell)))with
 |false=>
  have hs:swapsWith (.ListComp elt gs sc p) (some (.Name x p')) pos.line X.env=pure false:=by rw [←hb];rfl
  exact qdQ (e:=.ListComp elt gs sc p) (qlz hN hix hx ((snd n hn).e O h) hs hf) (fun _ _ _ z=>z) hlt hk
 |true=>
  have hs:swapsWith (.ListComp elt gs sc p) (some (.Name x p')) pos.line X.env=pure true:=by rw [←hb];rfl
  match n,h with
  | 0,h=>simp [cE]at h
  |m+1,h=>
   have ih:=snd (w:=w) (g:=g) m (Nat.le_of_succ_le hn);obtain⟨tgt,it,ifs,iit,itg,it',ie',rfl,hs1,hk1,h1,h2,h3,h4,he,rfl⟩:=qiP h htw;have hS:zJ X (zt sc.names) (qbl c sc.names) sc:=zJ.of (by
    have e1:(fun x=>c.nm.lookup x)=X.env.kindOf:=by funext x;show _=X.env.scope.names.lookup x;rw [O.nm]
    rw [←e1,O.N];exact hk1.1)
   refine qdQ (e:=.ListComp elt [⟨tgt,it,ifs,0⟩] sc p) (qjH (tb:=fun acc=>qdv acc (tE w g (zv c sc) E0 ie')) hN hix hx (O.calm hs1.1) hS (ih.i O h1 he.2) (fun cl C s₀ H₀ fp=>?_) (by simp) hs hf (fun x=>by
    have q:=hs1.2;cases it<;>first|rfl|cases q)) (fun σ H Q q=>qdK O hS he.1 q) hlt hk
   have OY:=O.comp hS.kind hk1.2 cl C s₀ H₀ fp;exact⟨qeB OY h2,ih.ifs OY h3,fun acc=>qfM rfl (ih.e OY h4)⟩
end
structure qnw(w:W)(g:Gc)(n:Nat):Prop where
 s:∀{c:Cc}{E:XK}{X:Cx} (O:XS w g c E X) {fr:Bool}{x:Stmt}{ir:EV.S},cS n c fr x=some ir→PS X x (tS w g c E fr ir)
 ss:∀{c:Cc}{E:XK}{X:Cx} (O:XS w g c E X) {fr:Bool}{x:List Stmt}{ir:Ss},cSs n c fr x=some ir→PSs X x (tSs w g c E fr ir)
section
variable{w:W}{g:Gc}{n:Nat}
theorem qnw.ss_succ(ih:qnw w g n){c:Cc}{E:XK}{X:Cx}(O:XS w g c E X){fr:Bool}{x:List Stmt}{ir:Ss}(h:cSs (n+1) c fr x=some ir):PSs X x (tSs w g c E fr ir):=by
 match x with
 | []=>simp only [cSs,Option.some.injEq]at h;subst h;exact qiY
 |s::r=>
  simp only [cSs,Option.bind_eq_bind,Option.bind_eq_some_iff]at h;obtain⟨ir',h2,h⟩:=h;cases h;cases h1:cS n c fr s with
  |none=>exact qhz qlI (ih.ss O h2)
  |some is=>exact qhz (ih.s O h1) (ih.ss O h2)
theorem qcc{c:Cc}{x:Str}{i:Nat}(h:c.N[i]? = some x):zp c i↔c.own.contains x=true:=⟨fun⟨y,h1,h2⟩=>by rw [h]at h1;cases h1;exact h2,fun h2=>⟨x,h,h2⟩⟩
theorem qjv{e:Expr}{x m:Str}{ap cp:Pos}{a:Expr}(h:qjS e=some (x,m,ap,a,cp)):∃p,e=.Call (.Attribute (.Name x p) m ap) [a] [] cp:=by
 unfold qjS at h;split at h
 ·split at h
  ·split at h
   ·split at h
    ·split at h
     ·rename_i hk;cases h;rw [List.isEmpty_iff]at hk;subst hk;exact⟨_,rfl⟩
     ·cases h
    ·cases h
   ·cases h
  ·cases h
 ·cases h
theorem qnw.s_succ(ih:qnw w g n)(hn:n≤100000){c:Cc}{E:XK}{X:Cx}(O:XS w g c E X){fr:Bool}{x:Stmt}{ir:EV.S}(h:cS (n+1) c fr x=some ir):PS X x (tS w g c E fr ir):=by
 have K:=snd (w:=w) (g:=g) n hn;unfold cS at h;split at h
 ·rename_i ts0 e pos
  split at h
  ·rename_i t0
   split at h
   ·-- x = e
    rename_i y p
    split at h
    ·cases h
    rename_i htw
    have htw:qfH e=false:=by simpa using htw
    simp only [Option.bind_eq_bind,Option.bind_eq_some_iff]at h;obtain⟨i,hl,ie,h1,h⟩:=h;obtain⟨l1,l2⟩:=zy hl;obtain⟨l3,_⟩:=zB l1;have ho:=qcc l3;have hk:((zp c i∧fresh c ie=true∧c.frz=false)∨(¬ zp c i∧esc ie=true))∧ir=.set (.nm i) ie:=by
     split at h
     ·rename_i hy
      split at h
      ·rename_i hf;cases h;exact⟨.inl ⟨ho.mpr hy,by simpa using hf⟩,rfl⟩
      ·cases h
     ·rename_i hy
      split at h
      ·rename_i hf;cases h;exact⟨.inr ⟨fun z=>hy (ho.mp z),hf⟩,rfl⟩
      ·cases h
    obtain⟨hk,rfl⟩:=hk;cases hc:qbu e with
    |false=>
     refine qdQ (e:=e) (qlz (i:=i) (by rw [O.N];exact O.nd) (by rw [O.N];exact l3) (by unfold L2.Loc;rw [O.nm];rcases l2 with z|z;exact .inl z;exact .inr z.1) (K.e O.toXO h1) (qbs hc) ?_) (fun _ _ _ z=>z) (List.getElem?_eq_some_iff.mp l3).1 hk;rcases l2 with z|z
     ·exact .inr (by rw [O.nm];exact z)
     ·exact .inl (O.fn y z.2)
    |true=>
     cases e with
     |ListComp elt gs sc p=>exact qky O.toXO hn hl h1 htw hk
     |SetComp elt gs sc p=>match n,h1 with
      | 0,h1=>cases h1
      |m+1,h1=>cases h1
     |DictComp a b gs sc p=>match n,h1 with
      | 0,h1=>cases h1
      |m+1,h1=>cases h1
     |_=>cases hc
   ·-- (a, b) = e
    rename_i ts k p
    split at h
    ·rename_i x y a b hp
     split at h
     ·rename_i hx
      simp only [Option.bind_eq_bind,Option.bind_eq_some_iff]at h;obtain⟨tg,h1,ie,h2,h⟩:=h;split at h
      ·cases h
      ·rename_i hc
       cases h;obtain⟨px,py,k2,pt2,rfl,rfl,hsa,hsb,hfa,hca,hl⟩:=qhq hp;refine qiz O.toXO (K.e O.toXO h2) (qeB O.toXO h1) (qeS h1) (by simpa using hc) rfl ?_ rfl;refine qle (fun z=>?_);rw [show X.env.kindOf x=X.env.scope.names.lookup x from rfl,O.nm]at z;rw [z]at hx;cases hx
     simp only [Option.bind_eq_bind,Option.bind_eq_some_iff]at h;obtain⟨i,hx,j,hy,ia,h1,ib,h2,h⟩:=h;obtain⟨px,py,k2,pt2,rfl,rfl,hsa,hsb,hfa,hca,hl⟩:=qhq hp;split at h
     ·cases h
     ·rename_i hc
      simp only [Bool.or_eq_true,Bool.not_eq_true',not_or,Bool.not_eq_true,Bool.not_eq_false]at hc;obtain⟨⟨⟨⟨⟨⟨⟨c1,c2⟩,c3⟩,c4⟩,c5⟩,c6⟩,c7⟩,c8⟩:=hc;obtain⟨l1,_⟩:=zy hx;obtain⟨l3,_⟩:=zB l1;obtain⟨m1,_⟩:=zy hy;obtain⟨m3,_⟩:=zB m1;have oi:=qcc l3;have oj:=qcc m3;have hk:((zp c j∧fresh c ib=true∧c.frz=false)∨(¬ zp c j∧esc ib=true))∧ir=.par i j ia ib:=by
       split at h
       ·rename_i hy'
        split at h
        ·rename_i hf;cases h;exact⟨.inl ⟨oj.mpr hy',by simpa using hf⟩,rfl⟩
        ·cases h
       ·rename_i hy'
        split at h
        ·rename_i hf;cases h;exact⟨.inr ⟨fun z=>hy' (oj.mp z),hf⟩,rfl⟩
        ·cases h
      obtain⟨hk,rfl⟩:=hk;exact qre O.toXO (O.calm c1) hx hy (eq_of_beq c2) (eq_of_beq c3) (by simpa using c4) (K.e O.toXO h1) (K.e O.toXO h2) c7 c8 hfa hca hl (fun z=>by have:=oi.mp z;rw [c5]at this;cases this) c6 hk
    split at h
    ·rename_i x y z a b d hp
     simp only [Option.bind_eq_bind,Option.bind_eq_some_iff]at h;obtain⟨i,hx,j,hy,l,hz,ia,h1,ib,h2,id,h3,h⟩:=h;obtain⟨px,py,pz,k2,pt2,rfl,rfl,hsa,hsb,hsd,hfa,hca,hl,hl'⟩:=qlF hp;split at h
     ·cases h
     ·rename_i hc
      simp only [Bool.or_eq_true,Bool.not_eq_true',not_or,Bool.not_eq_true,Bool.not_eq_false]at hc;obtain⟨⟨⟨⟨⟨⟨⟨⟨⟨⟨⟨⟨c1,c2⟩,c3⟩,c4⟩,c5⟩,c6⟩,c7⟩,c8⟩,c9⟩,c10⟩,c11⟩,c12⟩,c13⟩:=hc;cases h;have oi:=qcc (zB (zy hx).1).1;have oj:=qcc (zB (zy hy).1).1;have ol:=qcc (zB (zy hz).1).1;exact qou O.toXO (O.calm c1) hx hy hz (eq_of_beq c2) (eq_of_beq c3) (eq_of_beq c4) (by simpa using c5) (by simpa using c6) (by simpa using c7) (K.e O.toXO h1) (K.e O.toXO h2) (K.e O.toXO h3) hsa hsb hsd hfa hca hl hl' (fun q=>by have:=oi.mp q;rw [c8]at this;cases this) (fun q=>by have:=oj.mp q;rw [c9]at this;cases this) (fun q=>by have:=ol.mp q;rw [c10]at this;cases this) c11 c12 c13
    simp only [Option.bind_eq_bind,Option.bind_eq_some_iff]at h;obtain⟨tg,h1,ie,h2,h⟩:=h;split at h
    ·cases h
    ·rename_i hc
     have hc:((isTup e=true→qjr e=true)∧qbu e=false)∧esc ie=true:=by simpa using hc
     cases h;refine qiz O.toXO (K.e O.toXO h2) (qeB O.toXO h1) (qeS h1) hc.2 (by simp only [swapsWithSole];exact qbs hc.1.2) ?_ rfl;exact qlb hc.1.1
   ·-- x[k] = e
    split at h
    ·simp only [Option.bind_eq_bind,Option.bind_eq_some_iff]at h;obtain⟨i,hl,ie,h1,ik,h2,h⟩:=h;split at h
     ·rename_i hc
      simp only [Bool.and_eq_true,Bool.not_eq_true']at hc;cases h;exact qpL O.toXO hc.2 (zy hl).1 hc.1.1.1.1 (K.e O.toXO h2) (K.e O.toXO h1) hc.1.1.1.2 hc.1.1.2 hc.1.2
     ·cases h
    ·cases h
   ·cases h
  ·cases h
 ·split at h
  ·-- x.insert(k, a)
   rename_i he
   obtain⟨p,rfl⟩:=qkh he;simp only [Option.bind_eq_bind,Option.bind_eq_some_iff]at h;obtain⟨i,hl,ik,h0,ia,h1,h⟩:=h;split at h
   ·rename_i hc
    simp only [Bool.and_eq_true,Bool.not_eq_true',beq_iff_eq]at hc;cases h;obtain⟨⟨⟨⟨⟨c2,c3⟩,c4⟩,c5⟩,c6⟩,c7⟩:=hc;exact qrN O.toXO c7 (zy hl).1 c2 (K.e O.toXO h0) (K.e O.toXO h1) c3 c4 c5 (by simpa using c6)
   ·cases h
  split at h
  ·-- x.append(a)
   rename_i he
   obtain⟨p,rfl⟩:=qjv he;simp only [Option.bind_eq_bind,Option.bind_eq_some_iff]at h;obtain⟨i,hl,ia,h1,h⟩:=h;split at h
   ·rename_i hc
    simp only [Bool.and_eq_true,Bool.not_eq_true',beq_iff_eq]at hc;cases h;obtain⟨⟨⟨⟨⟨rfl,c2⟩,c3⟩,c4⟩,c5⟩,c6⟩:=hc;exact qrG O.toXO c6 (zy hl).1 c2 (K.e O.toXO h1) c3 c4 (by simpa using c5)
   ·cases h
  ·split at h
   ·cases h
   ·rename_i hc
    simp only [Option.bind_eq_bind,Option.bind_eq_some_iff]at h;obtain⟨ie,h1,h⟩:=h;cases h;exact qqJ (K.e O.toXO h1) (by simpa using hc)
 ·split at h
  ·-- return e
   rename_i e
   simp only [Option.bind_eq_bind,Option.bind_eq_some_iff]at h;obtain⟨ie,h1,h⟩:=h;split at h
   ·rename_i hf
    split at h
    ·rename_i y p
     split at h
     ·rename_i ho
      simp only [Option.map_eq_some_iff]at h;obtain⟨i,hl,rfl⟩:=h;exact qkN O.toXO hl ho
     ·cases h
    ·split at h
     ·rename_i hfr
      cases h;exact qlE (K.e O.toXO h1) fun _=>hfr
     ·cases h
   ·rename_i hf
    cases h;exact qlE (K.e O.toXO h1) fun z=>absurd z hf
  ·split at h
   ·cases h
   ·rename_i hf
    cases h;exact qoL (by simpa using hf)
 ·simp only [Option.bind_eq_bind,Option.bind_eq_some_iff]at h;obtain⟨it,h1,ia,h2,ib,h3,h⟩:=h;cases h;exact qsk (K.t O.toXO h1) (ih.ss O h2) (ih.ss O h3)
 ·split at h
  ·cases h
  ·rename_i tg0 it0 b0 els0 pos0 hc
   have hc:(els0=[]∧c.calm=true)∧zd it0=true:=by simpa using hc
   obtain⟨⟨rfl,hc1⟩,hc2⟩:=hc;simp only [Option.bind_eq_bind,Option.bind_eq_some_iff]at h;obtain⟨tg,h1,it,h2,h⟩:=h;split at h
   ·cases h
   ·rename_i ho
    have ho:qcO it tg0=true:=by simpa using ho
    simp only [Option.bind_eq_some_iff]at h;obtain⟨ib,h3,h⟩:=h;cases h;exact qsn O.toXO (O.calm hc1) (K.i O.toXO.nox h2 ho) (qeB O.toXO.nox h1) (qeS h1) (ih.ss O.nox.froze h3) hc2
 ·split at h
  ·cases h
  ·rename_i els0 _ hc
   have hc:els0=[]∧c.calm=true:=by simpa using hc
   obtain⟨rfl,hc⟩:=hc;simp only [Option.bind_eq_bind,Option.bind_eq_some_iff]at h;obtain⟨it,h1,ib,h2,h⟩:=h;cases h;exact qnr (K.t O.toXO.nox h1) (ih.ss O.nox h2)
 ·cases h;exact qoM
 ·cases h;exact qsl
 ·cases h;exact qpY
 ·cases h
theorem qnS:∀n,n≤100000→qnw w g n
 | 0,_=>⟨fun _ _ _ _ h=>by simp [cS]at h,fun _ _ _ _ h=>by simp [cSs]at h⟩
 |n+1,h=>
  have ih:=qnS n (Nat.le_of_succ_le h)
  ⟨fun O _ _ _ q=>ih.s_succ (Nat.le_of_succ_le h) O q,fun O _ _ _ q=>ih.ss_succ O q⟩
end
section
variable{w:W}{g:Gc}{c:Cc}{E:XK}{fr:Bool}{X:Cx}{H0:Hp}{B:Sh}{τ:Env}{σ:L2.St}{H H':Hp}{S:Sh}{n:Nat}
theorem SS.demote(s:SS g c H0 B τ σ H S){c':Cc}(hN:c'.N=c.N)(ho:c'.own=[])(hz:c'.frz=false):SS g c' H0 B τ σ H ⟨fun _=>false,B.h,B.z,B.y⟩:=by
 have no:∀i,¬ zp c' i:=fun i ⟨x,_,h⟩=>by rw [ho]at h;cases h
 have up:qf (hid H S) (hid H ⟨fun _=>false,B.h,B.z,B.y⟩):=fun b o h=>by
  obtain⟨h1,h2⟩:=quf.mp h;refine quf.mpr ⟨?_,h2⟩;have:=s.hd b;rw [h1]at this;show B.h b=false;cases q:B.h b with
  |false=>rfl
  |true=>rw [q]at this;cases this
 have val:∀(i:Nat) (d:D),τ[i]? = some (some d)→∃v,σ[i]? = some (some v)∧Rep g (hid H ⟨fun _=>false,B.h,B.z,B.y⟩) d v:=fun i d h=>by
  obtain⟨v,h1,h2,_⟩:=s.se.val i d h;refine⟨v,h1,?_⟩;rcases h2 with h2|⟨a,vs,ds,z1,rfl,rfl,z4,z5⟩
  ·exact h2.mono up
  ·exact .lst (SqL.of (quf.mpr ⟨s.sub0.free (s.new a z1),z4⟩)) (z5.mono up)
 refine⟨⟨s.se.len,fun i d h=>?_,fun a ha=>?_⟩,by rw [s.lenN,hN],s.same,s.sub0,fun a=>by simp,fun a ha=>(by cases ha),fun i d hi _=>(no i hi).elim,fun i j d e a hi _ _ _ _ _=>(no i hi).elim,fun z=>by rw [hz]at z;cases z⟩
 ·obtain⟨v,h1,h2⟩:=val i d h;exact⟨v,h1,.inl h2,fun _ _ _=>h2⟩
 ·rcases ha with ha|ha
  ·exact s.sub0.same s.same a (.inl ha)
  ·cases ha
noncomputable def qod(g:Gc)(E:XK)(fr:Bool)(H0:Hp)(B:Sh)(D:Ends):O→Prop
 | .nx _=>∀σ' H',qf H0 H'→D.nx σ' H'
 | .rt d=>∀v H',qf H0 H'→Rep g (hid H' B) d v→(fr=true→Fr g H0 B H' d v)→D.rt v H'
 | .ex k=>∀H' C,qf H0 H'→g.clA k=some C→E (.ref C) none H'
 |_=>False
theorem qod.out{D:Ends}{o:O}(h:qod g E fr H0 B D o):qcf g c E fr H0 B H S D o:=by
 cases o with
 |nx t=>exact fun σ' H' S' ss _=>h σ' H' ss.same
 |rt d=>exact h
 |ex k=>exact h
 |bk t=>exact h.elim
 |ct t=>exact h.elim
 |no=>exact h.elim
noncomputable def qtS(w:W)(g:Gc)(c:Cc)(E:XK)(fr:Bool)(s:Ss):TS:=fun D σ H=>∃H0 B τ S,SS g c H0 B τ σ H S∧qod g E fr H0 B D (qq w s τ)
theorem qlY(hn:n≤100000)(O:XS w g c E X):∀{x:List Stmt}{ir:Ss},qfQ n c fr x=some ir→PSs X x (qtS w g c E fr ir)
 | [],ir,h=>by
  cases h;exact PSs.imp qiY fun D σ H ⟨H0,B,τ,S,ss,z⟩=>⟨H0,B,τ,S,ss,z.out⟩
 |s::r,ir,h=>by
  unfold qfQ at h;split at h
  ·have O':XS w g (noOwn c) E X:=⟨⟨O.K,O.nm,O.N,O.nd,O.calm,O.units,O.fn,O.kind,O.pass,O.gok,O.fns,O.sub⟩,O.thr,O.exc,O.cat,O.frm,O.gh⟩
   exact PSs.imp ((qnS n hn).ss O' h) fun D σ H ⟨H0,B,τ,S,ss,z⟩=>⟨H0,B,τ,_,ss.demote rfl rfl rfl,z.out⟩
  ·simp only [Option.bind_eq_bind,Option.bind_eq_some_iff]at h;obtain⟨ir',h1,h⟩:=h;cases h;have hr:=qlY hn O h1;have hs:PS X s (tS w g c E fr ((cS n c fr s).getD .unk)):=by
    cases q:cS n c fr s with
    |none=>exact qlI
    |some is=>exact(qnS n hn).s O q
   refine PSs.imp (qhV hs hr) fun D σ H ⟨H0,B,τ,S,ss,z⟩=>?_
   simp only [qq]at z;refine⟨H0,B,τ,S,ss,?_⟩;cases q:evS w ((cS n c fr s).getD .unk) τ with
   |nx τ'=>rw [q]at z;exact fun σ' H' S' s' e=>⟨H0,B,τ',S',s',z⟩
   |bk τ'=>rw [q]at z;exact z.elim
   |ct τ'=>rw [q]at z;exact z.elim
   |rt d=>rw [q]at z;exact z
   |ex k=>rw [q]at z;exact z
   |no=>rw [q]at z;exact z
end
noncomputable def GM0(p:Pr)(g:Gc)(mg:Str→Option Value)(x:Str):GK→Prop
 | .fn _=>∃f,g.fnA x=some f
 | .val=>∃u v d,mg x=some u∧RelV v u∧p.glb x=some d∧∀H,Rep g H d v
 | .bi b=>mg x=none∧x=b1N b∧∃id,b1V b=.builtin id
 | .rng=>mg x=none∧x = "range"
 | .enum=>mg x=none∧x = "enumerate"
 | .zip=>mg x=none∧x = "zip"
 | .isi=>mg x=none∧x = "isinstance"
 | .ty n b=>mg x=none∧bootBuiltins x=some (.type n)∧(n∈["int","bool","str","list","tuple"]∨n = "ValueError")∧∀b',b=some b'→x=b1N b'∧b1V b'=.type n
 | .exc=>∃C,mg x=some (.ref C)∧g.clA x=some C∧qlm g.K C
 | .exk=>∃C,mg x=some (.ref C)∧g.clA x=some C
 | .set=>mg x=none∧bootBuiltins x=some (.type "set")
structure Ground(p:Pr)(g:Gc)(G GH GU:List (Str×GK))(mg:Str→Option Value):Prop where
 fn:∀x f,g.fnA x=some f→∃st own fr fd fnn,p.fns x=some fnn∧cFn G GH own fr st=some fnn∧Fun g.K x x st f fd∧Binds g.K fd (argNames (zm st)) []∧PySem.W.keepIn g.K (.ref f)=true∧mg x=some (.ref f)∧G.lookup x=some (.fn fr)
 gl:∀x k,G.lookup x=some k→GM0 p g mg x k
 gu:∀x k,GU.lookup x=some k→(∀fr,k≠.fn fr)∧k≠.exc∧GM0 p g mg x k
 gh:∀x k,GH.lookup x=some k→GU.lookup x=some k
 sub:∀k cl b,p.sub k cl=some b→∃C cv,g.clA k=some C∧qaI g.K C∧PySem.W.kitOne g.K (.ref C) cv=some b∧match cl with
  | .ty n=>n = "ValueError"∧cv=.type n
  | .ex x=>∃D,g.clA x=some D∧cv=.ref D
 cat:∀k x,p.cat k x=true→∀C D,g.clA k=some C→g.clA x=some D→PySem.W.exmOne g.K (.ref C) (.ref D)=some true
abbrev wAt(p:Pr)(k:Nat):W:=⟨qc p k,p.glb,p.sub,p.cat⟩
theorem qmW{N ps:List Str}{sc:Scope}(h:qha N ps sc=true):qcY N ps sc:=by
 unfold qha at h;simp only [Bool.and_eq_true,beq_iff_eq,Bool.not_eq_true',decide_eq_true_eq,List.all_eq_true,Bool.or_eq_true,bne_iff_ne,ne_eq]at h;obtain⟨⟨⟨⟨⟨⟨h1,h2⟩,h3⟩,h4⟩,h5⟩,h6⟩,h7⟩:=h;exact⟨h1,h2,h3,h4,h5,h6,h7⟩
theorem qkT{G GH:List (Str×GK)}{own:List Str}{fr:Bool}{st:Stmt}{fnn:Fn}(h:cFn G GH own fr st=some fnn):qha (qcX (zm st) (zk st)) (argNames (zm st)) (zk st)=true∧(argNames (zm st)).any own.contains=false ∧
  ∃b,qfQ qhO ⟨(zk st).names,qcX (zm st) (zk st),own,G,true,true,false,GH,[],false⟩ fr (qao st)=some b∧fnn=⟨(argNames (zm st)).length,(qcX (zm st) (zk st)).length,fr,b⟩:=by
 unfold cFn at h;dsimp only at h;split at h
 ·cases h
 ·rename_i hc
  simp only [Bool.or_eq_true,Bool.not_eq_true',not_or,Bool.not_eq_false,Bool.not_eq_true]at hc;simp only [Option.bind_eq_bind,Option.bind_eq_some_iff,Option.some.injEq]at h;obtain⟨b,h1,h2⟩:=h;exact⟨hc.1,hc.2,b,h1,h2.symm⟩
section
variable{P:Program}{w:World}{K:PySem.W.Frag}{mg:Str→Option Value}{base:Heap}{N:List Str}{qual:Str}{scope:Scope}{f:Addr}{cd:Value}{A:Around}{outer:List PySem.Env}{s₀:Shared}{H₀:Hp}{E:XK}
end
theorem GM0.gm{p:Pr}{g:Gc}{mg:Str→Option Value}{x:Str}{k:GK}{P:Program}{wl:World}{base:Heap}{A:Around}{calm:Bool}{n:Nat}(h:GM0 p g mg x k)(hf:∀fr,k≠.fn fr):GM (wAt p n) g P wl mg base A calm x k:=by
 cases k with
 |fn fr'=>exact absurd rfl (hf fr')
 |exc=>obtain⟨C,h1,h2,_⟩:=h;exact⟨C,h1,h2⟩
 |val=>exact h
 |bi b=>exact h
 |rng=>exact h
 |enum=>exact h
 |zip=>exact h
 |isi=>exact h
 |ty n b=>exact h
 |exk=>exact h
 |set=>exact h
theorem qnT{w:W}{g:Gc}{c:Cc}{E:XK}{X:Cx}{N ps own:List Str}{sc:Scope}{fr:Bool}{body:List Stmt}{b:Ss}(hcN:c.N=N)(hco:c.own=own)(hcz:c.frz=false)(FS:qcY N ps sc)(c2:ps.any own.contains=false)(c3:qfQ qhO c fr body=some b)
  (O:XS w g c E X) {vs:List V}{ds:List D}{B:Sh}{H:Hp}{Q:VK} (hB:Sub B H) (rv:qh g (hid H B) ds vs) (hl:ds.length=ps.length)
  (h:tR g E H (match qq w b (ds.map some++List.replicate (N.length-ps.length) none)with
   | .nx _=>if fr then .no else .ok .non
   | .rt d=>.ok d
   | .ex c=>.ex c
   |_=>.no) (fun d=>∀v H',qf H H'→Rep g (hid H' B) d v→(fr=true→Fr g H B H' d v)→Q v H')) :
  ∃t,PSs X body t∧t {nx:=fun _ H'=>Q .non H',rt:=Q} (start N vs) H:=by
 have hNl:ps.length≤N.length:=by have:=congrArg List.length FS.pre;rw [List.length_take]at this;lia
 refine⟨_,qlY (by decide) O c3,H,B,ds.map some++List.replicate (N.length-ps.length) none,⟨fun _=>false,B.h,B.z,B.y⟩,?_,?_⟩
 ·-- at the start
  have hh:hid H ⟨fun _=>false,B.h,B.z,B.y⟩=hid H B:=rfl;have hvl:=rv.length;have par:∀i d,(ds.map some++List.replicate (N.length-ps.length) none)[i]? = some (some d)→i<ps.length∧ds[i]? = some d:=fun i d hi=>by
   by_cases hlt:i<ds.length
   ·rw [List.getElem?_append_left (by simpa using hlt),List.getElem?_map]at hi;refine⟨by lia,?_⟩;cases q:ds[i]? with
    |none=>rw [q]at hi;cases hi
    |some e=>rw [q]at hi;simpa using hi
   ·rw [List.getElem?_append_right (by simpa using hlt)]at hi;rw [List.getElem?_replicate]at hi;split at hi<;>cases hi
  have noOwn:∀i d,zp c i→(ds.map some++List.replicate (N.length-ps.length) none)[i]? = some (some d)→False:=fun i d ⟨y,h1,h2⟩ hi=>by
   obtain⟨hlt,_⟩:=par i d hi;rw [hcN]at h1;rw [hco]at h2;have:N.take ps.length=ps:=FS.pre;have hy:ps[i]? = some y:=by
    rw [←this,List.getElem?_take,if_pos hlt];exact h1
   have:=List.any_eq_false.mp c2 y (List.mem_of_getElem? hy);exact this h2
  refine⟨⟨by simp [L2.start];lia,fun i d hi=>?_,fun a ha=>?_⟩,by simp [hcN];lia,qf.refl _,hB,(fun a=>by simp),(fun a ha=>by cases ha),(fun i d ho hi=>(noOwn i d ho hi).elim),fun i j d e a ho _ hi _ _ _=>(noOwn i d ho hi).elim,fun z=>by rw [hcz]at z;cases z⟩
  ·obtain⟨hlt,hd⟩:=par i d hi;obtain⟨v,h1,h2⟩:=rv.get hd;have hlt':i<vs.length:=by lia
   refine⟨v,?_,.inl h2,fun _ _ _=>h2⟩;unfold L2.start;rw [List.getElem?_append_left (by simpa using hlt'),List.getElem?_map,h1]
   rfl
  ·refine hB a ?_;rcases ha with ha|ha
   ·exact .inl ha
   ·cases ha
 ·-- at the end
  cases q:qq w b (ds.map some++List.replicate (N.length-ps.length) none)with
  |nx τ'=>
   rw [q]at h;simp only at h;cases fr with
   |true=>exact h.elim
   |false=>exact fun σ' H' hs=>h .non H' hs .non (by intro z;cases z)
  |rt d=>rw [q]at h;exact h
  |ex z=>rw [q]at h;exact h
  |bk z=>rw [q]at h;exact h.elim
  |ct z=>rw [q]at h;exact h.elim
  |no=>rw [q]at h;exact h.elim
section
variable{p:Pr}{g:Gc}{G GH GU:List (Str×GK)}{mg:Str→Option Value}{P:Program}{wl:World}{base:Heap}
theorem Ground.ok(T:Ground p g G GH GU mg):∀(k:Nat) (x:Str) (f:Addr) (st:Stmt) (own:List Str) (fr:Bool) (fd:FuncData) (fnn:Fn),p.fns x=some fnn→cFn G GH own fr st=some fnn→Fun g.K x x st f fd →
  qdU P wl g.K mg base (CX1 P wl) k f fd (argNames (zm st)) (spF (wAt p k) g x fr)
 | 0,x,f,st,own,fr,fd,fnn,_,_,_=>⟨fun vs H Q E ⟨S,ds,_,_,h⟩=>h.elim,fun A outer s H args us vs Q E _ _ _ _ ⟨S,ds,_,_,h⟩=>h.elim⟩
 |k+1,x,f,st,own,fr,fd,fnn,hf,hc,F=>by
  obtain⟨c1,c2,b,c3,rfl⟩:=qkT hc;have FS:=qmW c1;generalize hN:qcX (zm st) (zk st)=N at *;generalize hps:argNames (zm st)=ps at *;have call:∀ds,qc p (k+1) x ds=qat (wAt p k) ⟨ps.length,N.length,fr,b⟩ ds:=fun ds=>by simp only [qc,hf]
  have lenOf:∀vs H Q E,spF (wAt p (k+1)) g x fr vs H Q E→vs.length=ps.length:=fun vs H Q E ⟨S,ds,_,r,h⟩=>by
   have h:tR g E H (qc p (k+1) x ds) _:=h;rw [call]at h;unfold qat at h;by_cases hl:ds.length=ps.length
   ·rw [←r.length];exact hl
   ·rw [if_neg hl]at h;exact h.elim
  refine F.ok1 FS lenOf fun cdv A outer s H vs Q E hr hsp=>?_
  obtain⟨B,ds,hB,rv,h⟩:=hsp;have h:tR g E H (qc p (k+1) x ds) (fun d=>∀v H',qf H H'→Rep g (hid H' B) d v→(fr=true→Fr g H B H' d v)→Q v H'):=h;rw [call]at h;unfold qat at h;by_cases hl:ds.length=ps.length
  ·rw [if_pos hl]at h
   -- the ground of the body
   have calls:∀y fy,g.fnA y=some fy→∃fry,G.lookup y=some (.fn fry)∧qfz (wAt p k) g P wl mg base (A.deeper (envOfC x (zk st) s.heap.objs.size f cdv)) true y fy fry:=fun y fy hy=>by
    obtain⟨sty,owny,fry,fdy,fny,z1,z2,z3,z4,z5,z6,z7⟩:=T.fn y fy hy;exact⟨fry,z7,z6,z5,k,fdy,_,z4,.inl ⟨rfl,Ground.ok T k y fy sty owny fry fdy fny z1 z2 z3,hr⟩⟩
   have O:XS (wAt p k) g ⟨(zk st).names,N,own,G,true,true,false,GH,[],false⟩ E (qdy (CX1 P wl) P wl g.K mg base N x (zk st) f cdv A outer s H E):=by
    refine⟨⟨rfl,rfl,rfl,FS.nd,fun _=>rfl,hr.units,fun _ _=>rfl,FS.kind,qtm,fun y ky hy=>?_,fun _ y fy hy=>?_,T.sub⟩,(fun z=>by cases z),fun y C hy hC=>?_,T.cat,⟨rfl,rfl,rfl⟩,fun y ky hy=>?_⟩
    ·have:=T.gl y ky hy;by_cases hf:∃fr,ky=.fn fr
     ·obtain⟨fr',rfl⟩:=hf;obtain⟨fy,h1⟩:=this;obtain⟨fry,h2,h3⟩:=calls y fy h1;have hy:G.lookup y=some (.fn fr'):=hy;rw [hy]at h2;cases h2;exact⟨fy,h1,h3⟩
     ·exact this.gm fun fr z=>hf ⟨fr,z⟩
    ·obtain⟨fry,_,h3⟩:=calls y fy hy;exact⟨fry,h3⟩
    ·obtain⟨C',_,h2,h3⟩:=T.gl y .exc hy;rw [h2]at hC;cases hC;exact h3
    ·obtain⟨u1,u2,u3⟩:=T.gu y ky (T.gh y ky hy);exact⟨u2,fun v=>u3.gm u1⟩
   exact qnT rfl rfl rfl FS c2 c3 O hB rv hl h
  ·rw [if_neg hl]at h;exact h.elim
end
end EV
namespace WB
open PySem PySem.Spec PyProof.Rows L2
structure Dd(K:PySem.W.Frag)(n:Str)(st:Stmt)(f:Addr):Prop where
 a:PySem.W.nsIn K mainGlobals n=some (some (.ref f))
 l:∃oc od an sl kV dc pm cd ct,K.lookup f=some ⟨oc,od,.func (PySem.W.fnOf n n (zm st) (qao st) (zk st) .none kV dc pm an cd ct),sl⟩∧PySem.W.codeIn K cd n=true
 k:PySem.W.keepIn K (.ref f)=true
theorem zo{K:PySem.W.Frag}{n:Str}{st:Stmt}{f:Addr}{od an:Option Addr}{sl:Array (Option Value)}{oc kV dc pm cd ct:Value}(a:PySem.W.nsIn K mainGlobals n=some (some (.ref f)))
  (l:K.lookup f=some ⟨oc,od,.func (PySem.W.fnOf n n (zm st) (qao st) (zk st) .none kV dc pm an cd ct),sl⟩) (c:PySem.W.codeIn K cd n=true) (k:PySem.W.keepIn K (.ref f)=true):Dd K n st f:=
 ⟨a,⟨oc,od,an,sl,kV,dc,pm,cd,ct,l,c⟩,k⟩
theorem Dd.fn{K:PySem.W.Frag}{n:Str}{st:Stmt}{f:Addr}(d:Dd K n st f):∃fd,Fun K n n st f fd:=by
 obtain⟨oc,od,an,sl,kV,dc,pm,cd,ct,l,c⟩:=d.l;exact⟨_,qlP (st:=st) l c d.k⟩
theorem qqj{us:List Value}(h:us.length=1):∃a,us=[a]:=List.length_eq_one_iff.mp h
theorem qru{n:Nat}{us:List Value}(h:us.length=n+1):∃a r,us=a::r∧r.length=n:=by
 cases us with
 |nil=>cases h
 |cons a r=>exact⟨a,r,rfl,Nat.succ.inj h⟩
theorem qso{us:List Value}(h:us.length=2):∃a b,us=[a,b]:=by
 obtain⟨a,r,e,h⟩:=qru h;obtain⟨b,q⟩:=qqj h;subst q;exact⟨a,b,e⟩
theorem qtX{us:List Value}(h:us.length=3):∃a b c,us=[a,b,c]:=by
 obtain⟨a,r,e,h⟩:=qru h;obtain⟨b,c,q⟩:=qso h;subst q;exact⟨a,b,c,e⟩
structure Dk(K:PySem.W.Frag)(n:Str)(D:Addr):Prop where
 a:PySem.W.nsIn K mainGlobals n=some (some (.ref D))
 c:∃x,PySem.W.clsIn K D=some x
 t:PySem.W.typeIn K (.ref D)=some (.type "type")
end WB
namespace EV
open PySem PySem.Spec PySem.P PyProof.Rows L2
structure Ent where
 x:Str
 st:Stmt
 own:List Str
 fr:Bool
 fn:Fn
noncomputable def prT(tab:List Ent)(vals:List (Str×D))(qbp:List (Str×Str))(subs:List ((Str×Cl)×Bool):=[]):Pr:=⟨fun x=>(tab.find? (·.x==x)).map (·.fn),fun x=>vals.lookup x,fun k c=>subs.lookup (k,c),fun k x=>qbp.contains (k,x)⟩
noncomputable def unx:GK→GK
 | .exc=>.exk
 |k=>k
noncomputable def qdw(oth:List (Str×GK)):List (Str×GK):=oth.map fun y=>(y.1,unx y.2)
noncomputable def qeF(us:List Ent)(oth:List (Str×GK)):List (Str×GK):=us.map (fun e=>(e.x,GK.fn e.fr))++qdw oth
theorem qjb{x:Str}{k:GK}:∀{oth:List (Str×GK)},(qdw oth).lookup x=some k→∃k0,oth.lookup x=some k0∧k=unx k0
 | [],h=>by cases h
 | (y,k1)::r,h=>by
  have h:List.lookup x ((y,unx k1)::qdw r)=some k:=h;rw [List.lookup_cons]at h;split at h
  ·rename_i q;cases h;exact⟨k1,by rw [List.lookup_cons,q],rfl⟩
  ·rename_i q
   obtain⟨k0,h1,h2⟩:=qjb h;exact⟨k0,by rw [List.lookup_cons,q];exact h1,h2⟩
theorem qiL{x:Str}{k:GK}{oth:List (Str×GK)}:∀{us:List Ent},(qeF us oth).lookup x=some k→(∃e∈us,e.x=x∧k=.fn e.fr)∨(qdw oth).lookup x=some k
 | [],h=>.inr h
 |a::r,h=>by
  have h:List.lookup x ((a.x,GK.fn a.fr)::qeF r oth)=some k:=h;rw [List.lookup_cons]at h;split at h
  ·rename_i q;cases h;exact .inl ⟨a,List.mem_cons_self,(eq_of_beq q).symm,rfl⟩
  ·rcases qiL h with ⟨e,h1,h2⟩|h1
   ·exact .inl ⟨e,List.mem_cons_of_mem _ h1,h2⟩
   ·exact .inr h1
noncomputable def qbA(K:PySem.W.Frag)(ns:List Str)(x:Str):Option Addr:=if ns.contains x then (match PySem.W.nsIn K mainGlobals x with
 |some (some (.ref f))=>some f
 |_=>none)else none
noncomputable def gOf(K:PySem.W.Frag)(fns cls:List Str):Gc:=⟨K,qbA K fns,qbA K cls⟩
theorem qci{K:PySem.W.Frag}{ns:List Str}{x:Str}{f:Addr}(h:PySem.W.nsIn K mainGlobals x=some (some (.ref f)))(hx:ns.contains x=true):qbA K ns x=some f:=by
 unfold qbA;rw [if_pos hx,h]
theorem qdq{K:PySem.W.Frag}{ns:List Str}{x:Str}{f:Addr}(h:qbA K ns x=some f):ns.contains x=true∧PySem.W.nsIn K mainGlobals x=some (some (.ref f)):=by
 unfold qbA at h;split at h
 ·rename_i hx
  split at h
  ·rename_i q;cases h;exact⟨hx,q⟩
  ·cases h
 ·cases h
noncomputable def Bnd(e:Ent):Prop:=∀(kV doc pm:Value) (an:Option Addr) (cdv ct:Value) (us:List Value),us.length=(argNames (zm e.st)).length→bindArgs (PySem.W.fnOf e.x e.x (zm e.st) (qao e.st) (zk e.st) .none kV doc pm an cdv ct) ⟨us,[]⟩=pure ((argNames (zm e.st)).zip us)
structure qfo(K:PySem.W.Frag)(G:List (Str×GK))(e:Ent):Prop where
 dd:∃f,WB.Dd K e.x e.st f
 bnd:Bnd e
noncomputable def qqh(K:PySem.W.Frag)(vals:List (Str×D))(x:Str):GK→Prop
 | .fn _=>True
 | .val=>∃u v d,PySem.W.nsIn K mainGlobals x=some (some u)∧RelV v u∧vals.lookup x=some d∧∀g H,g.K=K→Rep g H d v
 | .bi b=>PySem.W.nsIn K mainGlobals x=some none∧x=b1N b∧∃id,b1V b=.builtin id
 | .rng=>PySem.W.nsIn K mainGlobals x=some none∧x = "range"
 | .enum=>PySem.W.nsIn K mainGlobals x=some none∧x = "enumerate"
 | .zip=>PySem.W.nsIn K mainGlobals x=some none∧x = "zip"
 | .isi=>PySem.W.nsIn K mainGlobals x=some none∧x = "isinstance"
 | .ty n b=>PySem.W.nsIn K mainGlobals x=some none∧bootBuiltins x=some (.type n)∧(n∈["int","bool","str","list","tuple"]∨n = "ValueError")∧∀b',b=some b'→x=b1N b'∧b1V b'=.type n
 | .exc=>∃C,PySem.W.nsIn K mainGlobals x=some (some (.ref C))∧PySem.W.excIn K C qel "ValueError.__new__" = true
 | .exk=>∃C,PySem.W.nsIn K mainGlobals x=some (some (.ref C))
 | .set=>PySem.W.nsIn K mainGlobals x=some none∧bootBuiltins x=some (.type "set")
noncomputable def qob(K:PySem.W.Frag)(cls:List Str)(y:(Str×Cl)×Bool):Prop:=∃C cv,cls.contains y.1.1=true∧PySem.W.nsIn K mainGlobals y.1.1=some (some (.ref C))∧qaI K C∧PySem.W.kitOne K (.ref C) cv=some y.2∧match y.1.2 with
 | .ty n=>n = "ValueError"∧cv=.type n
 | .ex x=>∃D,cls.contains x=true∧PySem.W.nsIn K mainGlobals x=some (some (.ref D))∧cv=.ref D
theorem qhh{α β:Type} [BEq α] [LawfulBEq α]{a:α}{b:β}:∀{l:List (α×β)},l.lookup a=some b→(a,b)∈l
 | (c,d)::r,h=>by
  rw [List.lookup_cons]at h;split at h
  ·rename_i q;cases h;rw [eq_of_beq q];exact List.mem_cons_self
  ·exact List.mem_cons_of_mem _ (qhh h)
theorem qhK{tab:List Ent}{e:Ent}(hn:(tab.map (·.x)).Nodup)(he:e∈tab):tab.find? (·.x==e.x)=some e:=by
 induction tab with
 |nil=>simp at he
 |cons a r ih=>
  simp only [List.map_cons,List.nodup_cons]at hn;rw [List.find?_cons];rcases List.mem_cons.mp he with rfl|h
  ·simp
  ·have:(a.x==e.x)=false:=by
    cases q:a.x==e.x with
    |false=>rfl
    |true=>
     have:=eq_of_beq q;exact absurd (this▸List.mem_map.mpr ⟨e,h,rfl⟩) hn.1
   rw [this];exact ih hn.2 h
theorem qlf{K:PySem.W.Frag}{h:Heap}{mg:Str→Option Value}(X:K.In h)(N:h.Ns mainGlobals mg){tab:List Ent}{oth G:List (Str×GK)}{vals:List (Str×D)}(hG:G=tab.map (fun e=>(e.x,GK.fn e.fr))++oth)
  (hnd:(tab.map (·.x)).Nodup) (ho:∀x k,oth.lookup x=some k→qqh K vals x k) (hof:∀x fr,oth.lookup x≠some (.fn fr)) {us:List Ent} (hus:∀e∈us,e∈tab) (hcu:∀e∈us,qrm (qdw oth) e.own e.fr e.st=some e.fn) (hc:∀e∈tab,cFn G (qeF us oth) e.own e.fr e.st=some e.fn) (he:∀e∈tab,qfo K G e) (cls:List Str) {qbp:List (Str×Str)} (hcat:∀y∈qbp,∃C D,PySem.W.nsIn K mainGlobals y.1=some (some (.ref C))∧PySem.W.nsIn K mainGlobals y.2=some (some (.ref D))∧PySem.W.exmOne K (.ref C) (.ref D)=some true) (hcl:∀x,(oth.lookup x=some .exc∨oth.lookup x=some .exk)→cls.contains x=true)
  {subs:List ((Str×Cl)×Bool)} (hsub:∀y∈subs,qob K cls y) :
  Ground (prT tab vals qbp subs) (gOf K (tab.map (·.x)) cls) G (qeF us oth) (qdw oth) mg:=by
 have lk:∀x k,G.lookup x=some k→(∃e∈tab,e.x=x∧k=.fn e.fr)∨oth.lookup x=some k:=by
  subst hG;clear hnd hc he hus
  induction tab with
  |nil=>intro x k hx;exact .inr hx
  |cons a r ih=>
   intro x k hx;simp only [List.map_cons,List.cons_append,List.lookup_cons]at hx;split at hx
   ·rename_i q;cases hx;exact .inl ⟨a,List.mem_cons_self,(eq_of_beq q).symm,rfl⟩
   ·rcases ih x k hx with ⟨e,h1,h2⟩|h1
    ·exact .inl ⟨e,List.mem_cons_of_mem _ h1,h2⟩
    ·exact .inr h1
 have lkE:∀e∈tab,G.lookup e.x=some (.fn e.fr):=by
  subst hG;clear hc he lk hus
  induction tab with
  |nil=>intro e h;simp at h
  |cons a r ih=>
   intro e hm;simp only [List.map_cons,List.nodup_cons]at hnd;simp only [List.map_cons,List.cons_append,List.lookup_cons];rcases List.mem_cons.mp hm with rfl|hm
   ·rw [beq_self_eq_true]
   ·have:(e.x==a.x)=false:=by
     cases q:e.x==a.x with
     |false=>rfl
     |true=>exact absurd ((eq_of_beq q)▸List.mem_map.mpr ⟨e,hm,rfl⟩) hnd.1
    rw [this];exact ih hnd.2 e hm
 have hca:∀k x,qbp.contains (k,x)=true→∀C D,qbA K cls k=some C→qbA K cls x=some D→PySem.W.exmOne K (.ref C) (.ref D)=some true:=fun k x z C D h1 h2=>by
  obtain⟨C',D',e1,e2,e3⟩:=hcat (k,x) (by simpa using z);have a1:=(qdq h1).2;have a2:=(qdq h2).2;rw [e1]at a1;rw [e2]at a2;cases a1;cases a2;exact e3
 have fnd:∀e∈tab,∃f fd,qbA K (tab.map (·.x)) e.x=some f∧Fun K e.x e.x e.st f fd∧Binds K fd (argNames (zm e.st)) []∧PySem.W.keepIn K (.ref f)=true∧mg e.x=some (.ref f):=fun e hm=>by
  obtain⟨⟨f',d⟩,hb⟩:=he e hm;obtain⟨fd,F⟩:=d.fn;exact⟨f',fd,qci d.a (by simpa using List.mem_map.mpr ⟨e,hm,rfl⟩),F,F.binds hb,d.k,PySem.W.mg_of X N d.a⟩
 have fne:∀e∈tab,(prT tab vals qbp subs).fns e.x=some e.fn:=fun e hm=>by show (tab.find? (·.x==e.x)).map (·.fn)=_;rw [qhK hnd hm];rfl
 have gl:∀x k,oth.lookup x=some k→GM0 (prT tab vals qbp subs) (gOf K (tab.map (·.x)) cls) mg x k:=fun x k hk=>by
  have:=ho x k hk;cases k with
  |fn fr=>exact absurd hk (hof x fr)
  |val=>obtain⟨u,v,d,h1,h2,h3,h4⟩:=this;exact⟨u,v,d,PySem.W.mg_of X N h1,h2,h3,fun H=>h4 _ H rfl⟩
  |bi b=>exact⟨PySem.W.mg_none_of X N this.1,this.2⟩
  |rng=>exact⟨PySem.W.mg_none_of X N this.1,this.2⟩
  |enum=>exact⟨PySem.W.mg_none_of X N this.1,this.2⟩
  |zip=>exact⟨PySem.W.mg_none_of X N this.1,this.2⟩
  |isi=>exact⟨PySem.W.mg_none_of X N this.1,this.2⟩
  |ty n b=>exact⟨PySem.W.mg_none_of X N this.1,this.2⟩
  |exc=>obtain⟨C,h1,h2⟩:=this;exact⟨C,PySem.W.mg_of X N h1,qci h1 (hcl x (.inl hk)),h2⟩
  |exk=>obtain⟨C,h1⟩:=this;exact⟨C,PySem.W.mg_of X N h1,qci h1 (hcl x (.inr hk))⟩
  |set=>exact⟨PySem.W.mg_none_of X N this.1,this.2⟩
 refine⟨fun x f hf=>?_,fun x k hx=>?_,fun x k hx=>?_,fun x k hx=>?_,fun k cl b z=>?_,hca⟩
 ·obtain⟨h1,h2⟩:=qdq hf;obtain⟨e,hm,rfl⟩:=List.mem_map.mp (by simpa using h1:x∈tab.map (·.x));obtain⟨f',fd,z1,z2,z3,z4,z5⟩:=fnd e hm;have hf:qbA K (tab.map (·.x)) e.x=some f:=hf;rw [hf]at z1;cases z1;exact⟨e.st,e.own,e.fr,fd,e.fn,fne e hm,hc e hm,z2,z3,z4,z5,lkE e hm⟩
 ·rcases lk x k hx with ⟨e,hm,rfl,rfl⟩|hk
  ·obtain⟨f',fd,z1,_⟩:=fnd e hm;exact⟨f',z1⟩
  ·exact gl x k hk
 ·obtain⟨k0,h1,rfl⟩:=qjb hx;have:=gl x k0 h1;cases k0 with
  |fn fr=>exact absurd h1 (hof x fr)
  |exc=>obtain⟨C,z1,z2,_⟩:=this;exact⟨by simp [unx],by simp [unx],⟨C,z1,z2⟩⟩
  |_=>exact⟨by simp [unx],by simp [unx],this⟩
 ·rcases qiL hx with ⟨e,hm,rfl,rfl⟩|hk
  ·have:=hcu e hm;cases this
  ·exact hk
 ·have z:subs.lookup (k,cl)=some b:=z;obtain⟨C,cv,h0,h1,h2,h3,h4⟩:=hsub _ (qhh z);refine⟨C,cv,qci h1 h0,h2,h3,?_⟩;cases cl with
  |ty n=>exact h4
  |ex x=>obtain⟨D,d0,d1,d2⟩:=h4;exact⟨D,qci d1 d0,d2⟩
theorem qsK{l:PySem.W.OpenLaw}{q:Program}{loose:List Str}{XP:(Str→Option Value)→Heap→Prop}{YP:World→Heap→Prop}{d:DefRec}{K:Params→PySem.W.Frag}{tab:List Ent}{G:List (Str×GK)}{vals:List (Str×D)}{cls:List Str}{qbp:List (Str×Str)}{subs:List ((Str×Cl)×Bool)}{GH GU:List (Str×GK)}{e:Ent}{k:Nat}
  (hn:l.most=some 63) (hdf:d.params.defaults=[]) (hd:d.name=e.x) (hr:qbi k callerA) (hY:∀(w:World) (h:Heap),YP w h→(K w.params).In h) (hm:e∈tab) (hnd:(tab.map (·.x)).Nodup) (hx:e.x = "law") (hfr:e.fr=false) (hp:argNames (zm e.st)=[("_law_script" : Str)])
  (hG:∀(w:World) (mg:Str→Option Value) (h:Heap),(K w.params).In h→h.Ns mainGlobals mg→Ground (prT tab vals qbp subs) (gOf (K w.params) (tab.map (·.x)) cls) G GH GU mg∧qfo (K w.params) G e) (hc:cFn G GH e.own e.fr e.st=some e.fn)
  (hlaw:∀ns:List Int,ns.length≤63→qc (prT tab vals qbp subs) k "law" [.lst (ns.map D.int)]=.ok (.bl true)) :
  PySem.W.WalkO q loose XP YP l.row.toRowW d [] (fun f vs=>PySem.call f vs):=by
 refine L2.qoO (n:=63) (k:=k) (x:="_law_script") (CX:=fun w=>CX1 l.prog w) (sp:=fun w=>spF (wAt (prT tab vals qbp subs) k) (gOf (K w.params) (tab.map (·.x)) cls) "law" false) hn (by decide) hdf hr hY (fun w mg fa h KX N hfa=>?_) (fun w H a ns hl _ hS=>?_) fun w H s e s' z=>?_
 ·obtain⟨T,⟨f,dd⟩,hb⟩:=hG w mg h KX N;have e1:=hfa.symm.trans (hd▸PySem.W.mg_of KX N dd.a);cases e1;obtain⟨oc,od,an,sl,kV,dc,pm,cd,ct,lk,hcd⟩:=dd.l;refine⟨PySem.W.fnOf e.x e.x (zm e.st) (qao e.st) (zk e.st) .none kV dc pm an cd ct,fun s u=>.of_eq ?_,fun base _ _=>?_⟩
  ·have:=hb kV dc pm an cd ct [u] (by rw [hp];rfl);rw [hp]at this;exact this
  ·have:=T.ok (P:=l.prog) (wl:=w) (base:=base) k e.x fa e.st e.own e.fr _ e.fn (by show (tab.find? (·.x==e.x)).map (·.fn)=_;rw [qhK hnd hm];rfl) hc (qlP (st:=e.st) lk hcd dd.k);rw [hp,hx,hfr]at this;rw [hx];exact this
 ·refine⟨⟨fun _=>false,fun _=>false,[],fun _=>none⟩,[.lst (ns.map D.int)],(fun a z=>by rcases z with z|z<;>cases z),.cons (.lst (xs:=ns.map V.int) ?_ (qh.ofInts _)) .nil,?_⟩
  ·have:hid H ⟨fun _=>false,fun _=>false,[],fun _=>none⟩=H:=by funext b;unfold hid;rw [if_neg (by simp)]
   rw [this];exact hS
  ·show tR _ _ _ (qc (prT tab vals qbp subs) k "law" [.lst (ns.map D.int)]) _;rw [hlaw ns hl];intro v H' _ r _;cases r;rfl
 ·obtain⟨_,_,_,_,_,_,_,_,_,z⟩:=z;exact z
end EV
namespace KG
open EV
open PySem (Str)
open L2 (atI ixN ltP)
abbrev prD:Int×Int→D:=EV.pairD
theorem zw{w:W}{f:Fn}{ds:List D}{d:D}{τ:Env}(hl:ds.length=f.ps)(hτ:ds.map some++List.replicate (f.N-f.ps) none=τ)(h:qq w f.body τ=.rt d):qat w f ds=.ok d:=by
 rw [qat,if_pos hl,hτ,h]
theorem qbm{w:W}{s:S}{r:Ss}{τ σ:Env}{o:O}(h:evS w s τ=.nx σ)(h':qq w r σ=o):qq w (.cons s r) τ=o:=by rw [qq,h];exact h'
theorem qbS{w:W}{it:It}{cap:List (Option Nat)}{t:T}{elt:E}{τ c:Env}{ds:List D}{g:D→List D}(h:evI w it τ=.ok ds)(hz:ds.length≤SZ)(hc:qaz cap τ=none::none::c)
  (hb:∀x∈ds,((evT w t (none::some x::c)).bind fun r=>if r then (evE w elt (none::some x::c)).bind fun d=>.ok [d]else .ok [])=.ok (g x)):evE w (.comp it cap (.nm 1) t elt) τ=.ok (.lst (ds.flatMap g)):=by
 have key:∀(l:List D) (v:Option D) (acc:List D),(∀x∈l,x∈ds)→zA (fun x σ=>noEx ((store (.nm 1) x σ).bind fun σ'=>(evT w t σ').bind fun r=>if r then (evE w elt σ').bind fun d=>.ok (σ',[d])else .ok (σ',[]))) l (none::v::c) acc=.ok (acc++l.flatMap g):=by
  intro l
  induction l with
  |nil=>intro v acc _;simp [zA]
  |cons x r ih=>
   intro v acc hm;have q:=hb x (hm x List.mem_cons_self);rw [zA];have e:noEx ((store (.nm 1) x (none::v::c)).bind fun σ'=>(evT w t σ').bind fun r=>if r then (evE w elt σ').bind fun d=>.ok (σ',[d])else .ok (σ',[]))=.ok (none::some x::c,g x):=by
    simp only [store,R.bind_ok,List.set_cons_succ,List.set_cons_zero];cases ht:evT w t (none::some x::c)with
    |ok b=>
     rw [ht]at q;simp only [R.bind_ok]at q ⊢;cases b
     ·simp at q ⊢;rw [←q];rfl
     ·simp only [if_true]at q ⊢;cases he:evE w elt (none::some x::c)with
      |ok d=>rw [he]at q;simp only [R.bind_ok,R.ok.injEq]at q ⊢;rw [←q];rfl
      |ex=>rw [he]at q;cases q
      |no=>rw [he]at q;cases q
    |ex=>rw [ht]at q;cases q
    |no=>rw [ht]at q;cases q
   rw [e];simp only [R.bind_ok];rw [ih (some x) _ fun y hy=>hm y (List.mem_cons_of_mem _ hy),List.flatMap_cons,List.append_assoc]
 rw [qx,h];simp only [R.bind_ok];rw [if_neg (by lia),hc,key ds none [] fun _ h=>h]
 rfl
theorem comp2{w:W}{it:It}{cap:List (Option Nat)}{t:T}{elt:E}{τ c:Env}{ds:List D}{g:D→List D}(h:evI w it τ=.ok ds)(hz:ds.length≤SZ)(hc:qaz cap τ=none::none::none::c)
  (hb:∀x∈ds,∃a b,x=.tup [a,b]∧((evT w t (none::some a::some b::c)).bind fun r=>if r then (evE w elt (none::some a::some b::c)).bind fun d=>.ok [d]else .ok [])=.ok (g x)):evE w (.comp it cap (.tp [1,2]) t elt) τ=.ok (.lst (ds.flatMap g)):=by
 have key:∀(l:List D) (v u:Option D) (acc:List D),(∀x∈l,x∈ds)→zA (fun x σ=>noEx ((store (.tp [1,2]) x σ).bind fun σ'=>(evT w t σ').bind fun r=>if r then (evE w elt σ').bind fun d=>.ok (σ',[d])else .ok (σ',[]))) l (none::v::u::c) acc=.ok (acc++l.flatMap g):=by
  intro l
  induction l with
  |nil=>intro v u acc _;simp [zA]
  |cons x r ih=>
   intro v u acc hm;obtain⟨a,b,rfl,q⟩:=hb x (hm x List.mem_cons_self);rw [zA];have e:noEx ((store (.tp [1,2]) (.tup [a,b]) (none::v::u::c)).bind fun σ'=>(evT w t σ').bind fun r=>if r then (evE w elt σ').bind fun d=>.ok (σ',[d])else .ok (σ',[]))=.ok (none::some a::some b::c,g (.tup [a,b])):=by
    simp only [store,setAll,List.length_cons,List.length_nil,if_true,R.bind_ok,List.set_cons_succ,List.set_cons_zero];cases ht:evT w t (none::some a::some b::c)with
    |ok b'=>
     rw [ht]at q;simp only [R.bind_ok]at q ⊢;cases b'
     ·simp at q ⊢;rw [q];rfl
     ·simp only [if_true]at q ⊢;cases he:evE w elt (none::some a::some b::c)with
      |ok d=>rw [he]at q;simp only [R.bind_ok,R.ok.injEq]at q ⊢;rw [←q];rfl
      |ex=>rw [he]at q;cases q
      |no=>rw [he]at q;cases q
    |ex=>rw [ht]at q;cases q
    |no=>rw [ht]at q;cases q
   rw [e];simp only [R.bind_ok];rw [ih (some a) (some b) _ fun y hy=>hm y (List.mem_cons_of_mem _ hy),List.flatMap_cons,List.append_assoc]
 rw [qx,h];simp only [R.bind_ok];rw [if_neg (by lia),hc,key ds none none [] fun _ h=>h]
 rfl
theorem qkn{w:W}{i:Int}:qaY w (.int i) (.ty "int")=.ok (.bl true):=rfl
theorem qlB{w:W}{i:Int}:qaY w (.int i) (.ty "bool")=.ok (.bl false):=rfl
theorem qjG{w:W}{i:List D}:qaY w (.tup i) (.ty "tuple")=.ok (.bl true):=rfl
theorem qnd{w:W}{i:List D}:qaY w (.tup i) (.ty "bool")=.ok (.bl false)∧qaY w (.tup i) (.ty "int")=.ok (.bl false)∧qaY w (.tup i) (.ty "str")=.ok (.bl false)∧qaY w (.tup i) (.ty "list")=.ok (.bl false):=⟨rfl,rfl,rfl,rfl⟩
theorem qnH{w:W}{i:Bool}:qaY w (.bl i) (.ty "bool")=.ok (.bl true):=rfl
theorem qmD(i:Int):(D.int i).asks=true:=rfl
theorem qoS(t:Int×Int):(prD t).asks=true:=rfl
theorem qbo:∀ns:List Int,plainAll (ns.map D.int)=true
 | []=>rfl
 |_::r=>qbo r
theorem qbJ:∀ns:List Int,qar (ns.map D.int)=0
 | []=>rfl
 |_::r=>by show max 0 (qar _)=0;rw [qbJ r];rfl
theorem qbL(ns:List Int):(D.tup (ns.map D.int)).asks=true:=by
 simp [D.asks,D.plain,D.deep,qbo,qbJ]
theorem qdk:∀ns ms:List Int,eqvAll (ns.map D.int) (ms.map D.int)=decide (ns=ms)
 | [],[]=>rfl
 | [],_::_=>rfl
 |_::_,[]=>rfl
 |a::r,b::t=>by
  show (a==b&&eqvAll (r.map D.int) (t.map D.int))=_;rw [qdk r t];simp [Bool.decide_and]
  rfl
noncomputable def mn(a b:Int):Int:=if b<a then b else a
noncomputable def mx(a b:Int):Int:=if a<b then b else a
noncomputable def qax(ts:List (Int×Int))(a b:Int):Bool:=ts.any fun t=>t.1==mn a b&&t.2==mx a b
theorem qqD(ts:List (Int×Int))(u v:Int):qi .isin (.tup [.int u,.int v]) (.tup (ts.map prD))=.ok (ts.any fun t=>t.1==u&&t.2==v):=by
 rw [qi];simp only [seq?];rw [if_pos (by simp only [Bool.and_eq_true,List.all_eq_true,List.mem_map];exact⟨rfl,fun x ⟨t,_,e⟩=>e▸qoS t⟩),inD,List.any_map]
 congr 2;funext t;show ((t.1==u)&&((t.2==v)&&true))=_;rw [Bool.and_true]
theorem qiG(ns:List Int)(a:Int):qi .isin (.int a) (.tup (ns.map D.int))=.ok (ns.any fun t=>t==a):=by
 rw [qi];simp only [seq?];rw [if_pos (by simp only [Bool.and_eq_true,List.all_eq_true,List.mem_map];exact⟨rfl,fun x ⟨t,_,e⟩=>e▸qmD t⟩),inD,List.any_map]
 rfl
theorem qiN(ns ms:List Int):qi .eq (.tup (ns.map D.int)) (.tup (ms.map D.int))=.ok (decide (ns=ms)):=by
 rw [qi]
 ·rw [if_pos (by simp only [Bool.and_eq_true];exact⟨qbL _,qbL _⟩)];show R.ok (eqvAll _ _)=_;rw [qdk]
 all_goals (intros;rintro⟨⟩)
structure GW(m:Int)(ts:List (Int×Int)):Prop where
 lo:1≤m
 hi:m≤8
 lt:ts.Pairwise fun s t=>ltP s t=true
 ok:∀t∈ts,0≤t.1∧t.1<t.2∧t.2<m
 len:ts.length≤28
structure GS(m:Int)(s:List Int):Prop where
 lt:s.Pairwise (· < ·)
 ok:∀i∈s,0≤i∧i<m
 len:s.length≤8
abbrev wb(m:Int)(ts:List (Int×Int)):D:=.tup [.int m,.tup (ts.map prD)]
abbrev tu(s:List Int):D:=.tup (s.map D.int)
theorem qfd{xs:List D}{i:Nat}(h:i<xs.length):atI xs (i:Int)=some xs[i]:=by
 rw [atI,ixN,if_pos (by lia),if_pos (by lia)];simp [h]
theorem all_true(xs:List D):bools? (xs.flatMap fun _=>[.bl true])=some (List.replicate xs.length true):=by
 induction xs with
 |nil=>rfl
 |cons x r ih=>show (bools? (r.flatMap fun _=>[.bl true])).map (true :: ·)=_;rw [ih];rfl
theorem qoK(n:Nat):(List.replicate n true).all id=true:=by simp
theorem qst{s t:Int×Int}(h:ltP s t=true):qi .lt (prD s) (prD t)=.ok true:=by
 show R.ok (qbh [s.1,s.2] [t.1,t.2])=_;rw [ltP]at h;simp only [qbh];by_cases e:s.1=t.1
 ·rw [if_pos e]at h ⊢;by_cases e2:s.2=t.2
  ·rw [e2]at h;simp at h
  ·rw [if_neg e2,h]
 ·rw [if_neg e]at h ⊢;rw [h]
noncomputable def rng(m:Int):List Int:=(List.range m.toNat).map fun(i:Nat)=>(i:Int)
theorem zz(m:Int):zD 0 m.toNat=(rng m).map D.int:=by
 rw [zD,rng,List.map_map];simp
theorem zS(m:Int):(rng m).length=m.toNat:=by simp [rng]
theorem qej{m i:Int}:i∈rng m↔0≤i∧i<m:=by
 simp only [rng,List.mem_map,List.mem_range];constructor
 ·rintro⟨a,h,rfl⟩;lia
 ·intro h;exact⟨i.toNat,by lia,by lia⟩
theorem qhT(m:Int):(rng m).Pairwise (· < ·):=by
 rw [rng,List.pairwise_map];exact List.pairwise_lt_range.imp fun h=>by lia
theorem qcS(c:Int→Bool)(ns:List Int):(ns.map D.int).flatMap (fun x=>match x with | .int i=>if c i then [D.int i]else []|_=>[])=(ns.filter c).map D.int:=by
 induction ns with
 |nil=>rfl
 |cons a r ih=>
  rw [List.map_cons,List.flatMap_cons,ih,List.filter_cons];show (if c a=true then [D.int a]else [])++_=_;cases c a<;>rfl
theorem qkR(x y:Int)(h:0<y)(h':y≤2^64):small (x%y)=true:=by
 have a:=Int.emod_nonneg x (show y≠0 by lia);have b:=Int.emod_lt_of_pos x h;simp only [small,Bool.and_eq_true,decide_eq_true_eq];lia
noncomputable def st(c j:Int):Int:=
 ((((c%2147483647+977 * j+1) * 48271%2147483647) * ((c%2147483647+977 * j+1) * 48271%2147483647)%2147483629+40692 * (j+3)) * 69621%2147483647)/8
theorem GW.sub{m:Int}{ts ps:List (Int×Int)}(h:GW m ps)(s:ts.Sublist ps):GW m ts:=
 ⟨h.lo,h.hi,h.lt.sublist s,fun t ht=>h.ok t (s.subset ht),Nat.le_trans s.length_le h.len⟩
theorem eq_int(a b:Int):qi .eq (.int a) (.int b)=.ok (decide (a=b)):=by
 show R.ok (a==b)=_;congr 1
theorem lt_int(a b:Int):qi .lt (.int a) (.int b)=.ok (decide (a<b)):=rfl
theorem qni{f:Int→D}(ns:List Int):(ns.map D.int).flatMap (fun x=>match x with | .int i=>[f i]|_=>[])=ns.map f:=by
 induction ns with
 |nil=>rfl
 |cons a r ih=>rw [List.map_cons,List.flatMap_cons,ih];rfl
noncomputable instance (m:Int) (ts:List (Int×Int)):Decidable (GW m ts):=
 decidable_of_iff (1≤m∧m≤8∧ts.Pairwise (fun s t=>ltP s t=true)∧(∀t∈ts,0≤t.1∧t.1<t.2∧t.2<m)∧ts.length≤28) ⟨fun⟨a,b,c,d,e⟩=>⟨a,b,c,d,e⟩,fun⟨a,b,c,d,e⟩=>⟨a,b,c,d,e⟩⟩
noncomputable def Ends(J:Env→Prop)(Q:D→Prop):O→Prop
 | .nx σ=>J σ
 | .rt d=>Q d
 |_=>False
section
variable{w:W}{J K:Env→Prop}{Q:D→Prop}{s:S}{r:Ss}{τ σ:Env}
theorem zI(h:J τ):Ends J Q (qq w .nil τ):=by rw [qq];exact h
theorem zr(h:evS w s τ=.nx σ)(h':Ends J Q (qq w r σ)):Ends J Q (qq w (.cons s r) τ):=by rw [qq,h];exact h'
theorem zZ(h:Ends K Q (evS w s τ))(h':∀σ,K σ→Ends J Q (qq w r σ)):Ends J Q (qq w (.cons s r) τ):=by
 rw [qq];cases q:evS w s τ with
 |nx σ=>rw [q]at h;exact h' σ h
 |rt d=>rw [q]at h;exact h
 |_=>rw [q]at h;exact h.elim
theorem qdr{e:E}{d:D}(h:evE w e τ=.ok d)(hq:Q d):Ends J Q (qq w (.cons (.ret e) r) τ):=by
 rw [qq,zU,h];exact hq
theorem qdg{t:T}{a b:Ss}{v:Bool}(h:evT w t τ=.ok v)(h1:v=true→Ends J Q (qq w a τ))(h2:v=false→Ends J Q (qq w b τ)):Ends J Q (evS w (.ite t a b) τ):=by
 rw [zQ,h];cases v
 ·exact h2 rfl
 ·exact h1 rfl
theorem qde{tg:Tg}{it:It}{b:Ss}{ds:List D}(I:List D→Env→Prop)(h:evI w it τ=.ok ds)(h0:I ds τ)(hs:∀x t σ,I (x::t) σ→∃σ1,store tg x σ=.ok σ1∧Ends (I t) Q (qq w b σ1))(hn:∀σ,I [] σ→Ends J Q (qq w r σ)):Ends J Q (qq w (.cons (.for tg it b) r) τ):=by
 have key:∀(l:List D) (σ:Env),I l σ→Ends (I []) Q (qaX tg (fun σ=>qq w b σ) l σ):=by
  intro l
  induction l with
  |nil=>intro σ q;exact q
  |cons x t ih=>
   intro σ q;obtain⟨σ1,a,b'⟩:=hs x t σ q;rw [qaX,a];simp only [R.out_ok];cases z:qq w b σ1 with
   |nx σ2=>rw [z]at b';exact ih σ2 b'
   |rt d=>rw [z]at b';exact b'
   |_=>rw [z]at b';exact b'.elim
 have hk:=key ds τ h0;refine zZ (K:=I []) ?_ hn;rw [qaC,h];simp only [R.out_ok];cases z:qaX tg (fun σ=>qq w b σ) ds τ with
 |nx σ2=>rw [z]at hk;exact hk
 |rt d=>rw [z]at hk;exact hk
 |_=>rw [z]at hk;exact hk.elim
end
theorem qqy{J J':Env→Prop}{Q:D→Prop}{o:O}(h:Ends J Q o)(hj:∀σ,J σ→J' σ):Ends J' Q o:=by
 cases o with
 |nx σ=>exact hj σ h
 |rt d=>exact h
 |_=>exact h.elim
noncomputable def qeH(m:Int):List Int:=(List.range (m-1).toNat).map fun(i:Nat)=>1+(i:Int)
noncomputable def qkv(b:Int):List (Int×Int):=(rng b).map fun a=>(a,b)
noncomputable def qcN(m:Int):List (Int×Int):=(qeH m).flatMap qkv
structure Pok(n:Int):Prop where
 nd:(qcN n).Nodup
 ok:∀t∈qcN n,0≤t.1∧t.1<t.2∧t.2<n
 len:(qcN n).length≤28
theorem pok(n:Int)(h1:1≤n)(h2:n≤8):Pok n:=by
 have:n=1∨n=2∨n=3∨n=4∨n=5∨n=6∨n=7∨n=8:=by lia
 rcases this with rfl|rfl|rfl|rfl|rfl|rfl|rfl|rfl<;>exact⟨by decide +kernel,by decide +kernel,by decide +kernel⟩
theorem qkP{s t:Int×Int}(h:ltP t s=false)(hn:s≠t):ltP s t=true:=by
 simp only [ltP]at h ⊢;by_cases e:s.1=t.1
 ·rw [if_pos e.symm]at h;rw [if_pos e];have:s.2≠t.2:=fun z=>hn (Prod.ext e z)
  simp at h ⊢;lia
 ·rw [if_neg (fun z=>e z.symm)]at h;rw [if_neg e];simp at h ⊢;lia
theorem qgo{l:List (Int×Int)}(h:l.Pairwise fun a b=>ltP b a=false)(hn:l.Nodup):l.Pairwise fun s t=>ltP s t=true:=
 List.Pairwise.imp₂ (fun a b h1 h2=>qkP h1 h2) h hn
theorem qpk{n:Int}(h1:1≤n)(h2:n≤8){ts:List (Int×Int)}(s:ts.Sublist (qcN n)):GW n (zG ts):=by
 have P:=pok n h1 h2;have pm:=qcP ts;exact⟨by lia,by lia,qgo (qbM ts) (pm.nodup_iff.mpr (P.nd.sublist s)),fun t ht=>P.ok t (s.subset (pm.mem_iff.mp ht)),by rw [pm.length_eq];exact Nat.le_trans s.length_le P.len⟩
theorem qfK:∀ts:List (Int×Int),pairs? (ts.map prD)=some ts
 | []=>rfl
 |t::r=>by show (pairs? (r.map prD)).map (t :: ·)=_;rw [qfK r];rfl
theorem qjY(xs:List D):b1 .sorted [.lst xs]=(if xs.length<64 then (match ints? xs with
  |some ns=>.ok (.lst ((sortI ns).map D.int))
  |none=>match pairs? xs with
   |some ps=>.ok (.lst ((zG ps).map pairD))
   |none=>qay xs)else qay xs):=rfl
theorem qki(ts:List (Int×Int))(h:ts.length<64):b1 .sorted [.lst (ts.map prD)]=.ok (.lst ((zG ts).map prD)):=by
 rw [qjY,if_pos (by simpa using h)];cases ts with
 |nil=>rfl
 |cons t r=>
  have e:ints? ((t::r).map prD)=none:=rfl;rw [e];simp only;rw [qfK]
noncomputable def hd(m:Int)(ts:List (Int×Int))(a:Int):List Int:=(rng m).filter fun b=>b==a||qax ts a b
noncomputable def mk(m:Int)(ts:List (Int×Int))(s:List Int)(a:Int):List Int:=s.filter fun x=>(hd m ts a).any fun t=>t==x
end KG
noncomputable def KG.Z:=And.intro @EV.qq.eq_1 (And.intro @EV.qq.eq_2 (And.intro @EV.zL (And.intro @EV.qaB (And.intro @EV.qaA (And.intro @EV.zU (And.intro @EV.qaw (And.intro @EV.zQ (And.intro @EV.zT (And.intro @EV.qX (And.intro @EV.zc (And.intro @EV.zb (And.intro @EV.zh (And.intro @EV.zf (And.intro @EV.qY (And.intro @EV.zg (And.intro @EV.qK (And.intro @EV.qB (And.intro @EV.qJ (And.intro @EV.qD (And.intro @EV.qF (And.intro @EV.qI (And.intro @EV.qC (And.intro @EV.qw (And.intro @EV.qL (And.intro @EV.qH (And.intro @EV.qr (And.intro @EV.qA (And.intro @EV.qE (And.intro @EV.zx.eq_1 (And.intro @EV.zx.eq_2 (And.intro @EV.qcD (And.intro @EV.qbB (And.intro @EV.qbE (And.intro @EV.qcG (And.intro @EV.qcF (And.intro @EV.qcB (And.intro @EV.qcA (And.intro @EV.evI.eq_1 (And.intro @EV.evI.eq_2 (And.intro @EV.evI.eq_3 (And.intro @EV.evI.eq_4 (And.intro @EV.evI.eq_5 (And.intro @EV.evI.eq_6 (And.intro @EV.evO.eq_1 (And.intro @EV.evO.eq_2 (And.intro @EV.opI.eq_1 (And.intro @EV.opI.eq_2 (And.intro @EV.opI.eq_3 (And.intro @EV.opI.eq_4 (And.intro @EV.opI.eq_5 (And.intro @EV.opI.eq_6 (And.intro @EV.opI.eq_7 (And.intro @EV.opI.eq_8 (And.intro @EV.opI.eq_9 (And.intro @EV.opI.eq_10 (And.intro @EV.opI.eq_11 (And.intro @EV.b11.eq_1 (And.intro @EV.b11.eq_2 (And.intro @EV.b11.eq_3 (And.intro @EV.b11.eq_4 (And.intro @EV.b11.eq_5 (And.intro @EV.b11.eq_6 (And.intro @EV.b11.eq_7 (And.intro @EV.b11.eq_8 (And.intro @EV.b11.eq_9 (And.intro @EV.b11.eq_10 (And.intro @EV.b11.eq_11 (And.intro @EV.b11.eq_12 (And.intro @EV.b11.eq_13 (And.intro @EV.b12.eq_1 (And.intro @EV.b12.eq_2 (And.intro @EV.b12.eq_3 (And.intro @EV.qaq.eq_1 (And.intro @EV.qaq.eq_2 (And.intro @EV.qcl.eq_1 (And.intro @EV.qcl.eq_2 (And.intro @EV.iiR.eq_1 (And.intro @EV.iiR.eq_2 (And.intro @EV.zY.eq_1 (And.intro @EV.store.eq_1 (And.intro @EV.store.eq_2 (And.intro @EV.store.eq_3 (And.intro @EV.setAll.eq_1 (And.intro @EV.setAll.eq_2 (And.intro @EV.setAll.eq_3 (And.intro @EV.truth.eq_1 (And.intro @EV.truth.eq_2 (And.intro @EV.truth.eq_3 (And.intro @EV.truth.eq_4 (And.intro @EV.truth.eq_5 (And.intro @EV.truth.eq_6 (And.intro @KG.qkn (And.intro @KG.qlB (And.intro @KG.qjG (And.intro @KG.qnd (@KG.qnH))))))))))))))))))))))))))))))))))))))))))))))))))))))))))))))))))))))))))))))))))))))))))))))))
namespace KG
open EV
open PySem (Str)
open L2 (atI ixN ltP)
noncomputable def qbZ:Fn:=⟨1,1,false,(.cons (.ret (.and (.isi (.var 0) (.ty "int")) (.not (.isi (.var 0) (.ty "bool"))))) .nil)⟩
noncomputable def qaJ:Fn:=⟨3,3,false,(.cons (.ret (.and (.call "is_whole" (.cons (.var 0) .nil)) (.cmp2 .le .le (.var 1) (.var 0) (.var 2)))) .nil)⟩
noncomputable def qbI:Fn:=⟨1,1,false,(.cons (.ret (.and (.isi (.var 0) (.ty "tuple")) (.cmp .eq (.bi .len (.cons (.var 0) .nil)) (.con (.int 2))))) .nil)⟩
noncomputable def qdc:Fn:=⟨1,1,false,(.cons (.ret (.bi .all (.cons (.comp (.rng (.op .sub (.bi .len (.cons (.var 0) .nil)) (.con (.int 1)))) [none,none,some 0] (.nm 1) .yes (.cmp .lt (.ix (.var 2) (.var 1)) (.ix (.var 2) (.op .add (.var 1) (.con (.int 1)))))) .nil))) .nil)⟩
noncomputable def qcp:Fn:=⟨1,3,false,(.cons (.ite (.not (.val (.call "is_pair" (.cons (.var 0) .nil)))) (.cons (.ret (.con (.bl false))) .nil) .nil) (.cons (.set (.tp [1,2]) (.var 0)) (.cons (.ite (.or (.not (.val (.call "is_between" (.cons (.var 1) (.cons (.con (.int 1)) (.cons (.glb "MOST") .nil)))))) (.not (.val (.isi (.var 2) (.ty "tuple"))))) (.cons (.ret (.con (.bl false))) .nil) .nil) (.cons (.ret (.and (.bi .all (.cons (.comp (.seq (.var 2)) [none,none,some 1] (.nm 1) .yes (.call "is_tie" (.cons (.var 1) (.cons (.var 2) .nil)))) .nil)) (.call "rises" (.cons (.var 2) .nil)))) .nil))))⟩
noncomputable def qct:Fn:=⟨2,4,false,(.cons (.ite (.not (.val (.call "is_pair" (.cons (.var 0) .nil)))) (.cons (.ret (.con (.bl false))) .nil) .nil) (.cons (.set (.tp [2,3]) (.var 0)) (.cons (.ret (.and (.call "is_whole" (.cons (.var 2) .nil)) (.and (.call "is_whole" (.cons (.var 3) .nil)) (.cmp3 .le .lt .lt (.con (.int 0)) (.var 2) (.var 3) (.var 1))))) .nil)))⟩
noncomputable def qbg:Fn:=⟨1,1,false,(.cons (.ite (.not (.val (.call "is_web" (.cons (.var 0) .nil)))) (.cons .unk .nil) .nil) .nil)⟩
noncomputable def qce:Fn:=⟨1,1,false,(.cons (.exp (.call "need_web" (.cons (.var 0) .nil))) (.cons (.ret (.bi .tuple (.cons (.comp (.rng (.ix (.var 0) (.con (.int 0)))) [none,none,some 0] (.nm 1) .yes (.call "hood_of" (.cons (.var 2) (.cons (.var 1) .nil)))) .nil))) .nil))⟩
noncomputable def qbe:Fn:=⟨2,4,false,(.cons (.set (.tp [2,3]) (.var 0)) (.cons (.ret (.bi .tuple (.cons (.comp (.rng (.var 2)) [none,none,some 1,some 3] (.nm 1) (.or (.cmp .eq (.var 1) (.var 2)) (.val (.call "are_tied" (.cons (.var 3) (.cons (.var 2) (.cons (.var 1) .nil)))))) (.var 1)) .nil))) .nil))⟩
noncomputable def qaN:Fn:=⟨3,3,false,(.cons (.ret (.cmp .isin (.tup (.cons (.bi .min (.cons (.var 1) (.cons (.var 2) .nil))) (.cons (.bi .max (.cons (.var 1) (.cons (.var 2) .nil))) .nil))) (.var 0))) .nil)⟩
noncomputable def qbK:Fn:=⟨2,2,false,(.cons (.ret (.bi .tuple (.cons (.comp (.seq (.var 1)) [none,none,some 0] (.nm 1) (.cmp .isin (.var 1) (.var 2)) (.var 1)) .nil))) .nil)⟩
noncomputable def qbn:Fn:=⟨2,2,false,(.cons (.ret (.comp (.seq (.var 0)) [none,none,some 1] (.nm 1) .yes (.call "mark_of" (.cons (.var 1) (.cons (.var 2) .nil))))) .nil)⟩
noncomputable def qjL:Fn:=⟨1,3,false,(.cons (.set (.nm 1) (.lst (.cons (.tup .nil) .nil))) (.cons (.for (.nm 2) (.rng (.ix (.var 0) (.con (.int 0)))) (.cons (.set (.nm 1) (.op .add (.var 1) (.comp (.seq (.var 1)) [none,none,some 2] (.nm 1) .yes (.op .add (.var 1) (.tup (.cons (.var 2) .nil)))))) .nil)) (.cons (.ret (.bi .sorted (.cons (.var 1) .nil))) .nil)))⟩
noncomputable def zF:Fn:=⟨2,2,false,(.cons (.ite (.cmp .lt (.var 1) (.bi .len (.cons (.var 0) .nil))) (.cons (.ret (.ix (.var 0) (.var 1))) .nil) .nil) (.cons (.ret (.con (.int 0))) .nil))⟩
noncomputable def zR:Fn:=⟨2,3,false,(.cons (.set (.nm 2) (.op .mod (.op .mul (.op .add (.op .add (.op .mod (.var 0) (.con (.int 2147483647))) (.op .mul (.con (.int 977)) (.var 1))) (.con (.int 1))) (.con (.int 48271))) (.con (.int 2147483647)))) (.cons (.set (.nm 2) (.op .mod (.op .mul (.var 2) (.var 2)) (.con (.int 2147483629)))) (.cons (.set (.nm 2) (.op .mod (.op .mul (.op .add (.var 2) (.op .mul (.con (.int 40692)) (.op .add (.var 1) (.con (.int 3))))) (.con (.int 69621))) (.con (.int 2147483647)))) (.cons (.ret (.op .fdiv (.var 2) (.con (.int 8)))) .nil))))⟩
noncomputable def qbf:Fn:=⟨2,10,false,(.cons (.set (.nm 2) (.op .add (.con (.int 1)) (.op .mod (.var 0) (.var 1)))) (.cons (.set (.nm 3) (.op .fdiv (.var 0) (.var 1))) (.cons (.set (.nm 4) (.op .mod (.var 3) (.con (.int 6)))) (.cons (.set (.nm 5) (.lst .nil)) (.cons (.for (.nm 6) (.rng2 (.con (.int 1)) (.var 2)) (.cons (.for (.nm 7) (.rng (.var 6)) (.cons (.set (.nm 8) (.op .band (.op .shr (.op .fdiv (.var 3) (.con (.int 6))) (.op .add (.op .fdiv (.op .mul (.var 6) (.op .sub (.var 6) (.con (.int 1)))) (.con (.int 2))) (.var 7))) (.con (.int 1)))) (.cons (.ite (.cmp .eq (.var 4) (.con (.int 3))) (.cons (.set (.nm 8) (.op .fdiv (.op .mod (.call "_law_stir" (.cons (.var 0) (.cons (.op .add (.op .mul (.con (.int 8)) (.var 7)) (.var 6)) .nil))) (.con (.int 3))) (.con (.int 2)))) .nil) .nil) (.cons (.ite (.cmp .eq (.var 4) (.con (.int 4))) (.cons (.set (.nm 8) (.op .fdiv (.op .add (.op .mod (.call "_law_stir" (.cons (.var 0) (.cons (.op .add (.op .mul (.con (.int 8)) (.var 7)) (.var 6)) .nil))) (.con (.int 4))) (.con (.int 2))) (.con (.int 3)))) .nil) .nil) (.cons (.ite (.cmp .eq (.var 4) (.con (.int 5))) (.cons (.set (.nm 9) (.lst (.cons (.cmp .eq (.var 6) (.op .add (.var 7) (.con (.int 1)))) (.cons (.or (.cmp .eq (.var 6) (.op .add (.var 7) (.con (.int 1)))) (.cmp .eq (.op .sub (.var 6) (.var 7)) (.op .sub (.var 2) (.con (.int 1))))) (.cons (.cmp .eq (.var 7) (.con (.int 0))) (.cons (.con (.bl true)) (.cons (.and (.cmp .eq (.var 6) (.op .add (.var 7) (.con (.int 1)))) (.cmp .lt (.op .mod (.var 7) (.con (.int 3))) (.con (.int 2)))) .nil))))))) (.cons (.set (.nm 8) (.bi .int (.cons (.ix (.var 9) (.op .mod (.op .fdiv (.var 3) (.con (.int 6))) (.con (.int 5)))) .nil))) .nil)) .nil) (.cons (.ite (.cmp .eq (.var 8) (.con (.int 1))) (.cons (.app 5 (.tup (.cons (.var 7) (.cons (.var 6) .nil)))) .nil) .nil) .nil)))))) .nil)) (.cons (.ret (.tup (.cons (.var 2) (.cons (.bi .tuple (.cons (.bi .sorted (.cons (.own 5) .nil)) .nil)) .nil)))) .nil))))))⟩
noncomputable def qaL:Fn:=⟨1,4,false,(.cons (.set (.nm 1) (.comp (.rng (.ix (.var 0) (.con (.int 0)))) [none,none] (.nm 1) .yes (.op .shl (.con (.int 1)) (.var 1)))) (.cons (.for (.tp [2,3]) (.seq (.ix (.var 0) (.con (.int 1)))) (.cons (.seti 1 (.var 2) (.op .bor (.ix (.own 1) (.var 2)) (.op .shl (.con (.int 1)) (.var 3)))) (.cons (.seti 1 (.var 3) (.op .bor (.ix (.own 1) (.var 3)) (.op .shl (.con (.int 1)) (.var 2)))) .nil))) (.cons (.ret (.own 1)) .nil)))⟩
noncomputable def qal:Fn:=⟨2,2,false,(.cons (.ret (.bi .tuple (.cons (.comp (.rng (.var 0)) [none,none,some 1] (.nm 1) (.cmp .eq (.op .band (.op .shr (.var 2) (.var 1)) (.con (.int 1))) (.con (.int 1))) (.var 1)) .nil))) .nil)⟩
noncomputable def qaV:Fn:=⟨2,5,false,(.cons (.set (.nm 2) (.con (.int 0))) (.cons (.for (.tp [3,4]) (.enum (.var 0)) (.cons (.ite (.cmp .eq (.op .band (.op .shr (.var 1) (.var 3)) (.con (.int 1))) (.con (.int 1))) (.cons (.set (.nm 2) (.op .bor (.var 2) (.var 4))) .nil) .nil) .nil)) (.cons (.ret (.var 2)) .nil)))⟩
noncomputable def qaP:Fn:=⟨2,2,false,(.cons (.ret (.call "is_between" (.cons (.var 1) (.cons (.con (.int 0)) (.cons (.op .sub (.ix (.var 0) (.con (.int 0))) (.con (.int 1))) .nil))))) .nil)⟩
noncomputable def qbb:Fn:=⟨2,2,false,(.cons (.ite (.not (.val (.isi (.var 1) (.ty "tuple")))) (.cons (.ret (.con (.bl false))) .nil) .nil) (.cons (.ret (.and (.bi .all (.cons (.comp (.seq (.var 1)) [none,none,some 0] (.nm 1) .yes (.call "is_place" (.cons (.var 2) (.cons (.var 1) .nil)))) .nil)) (.call "rises" (.cons (.var 1) .nil)))) .nil))⟩
noncomputable def qaT:Fn:=⟨2,2,false,(.cons (.ite (.not (.val (.call "is_some" (.cons (.var 0) (.cons (.var 1) .nil))))) (.cons .unk .nil) .nil) .nil)⟩
structure Web(p:Pr):Prop where
 is_whole:p.fns "is_whole" = some qbZ
 is_between:p.fns "is_between" = some qaJ
 is_pair:p.fns "is_pair" = some qbI
 rises:p.fns "rises" = some qdc
 is_web:p.fns "is_web" = some qcp
 is_tie:p.fns "is_tie" = some qct
 need_web:p.fns "need_web" = some qbg
 MOST:p.glb "MOST" = some (.int 8)
structure Base(p:Pr):Prop extends Web p where
 all_some:p.fns "all_some" = some qjL
 _law_cell_at:p.fns "_law_cell_at" = some zF
 _law_stir:p.fns "_law_stir" = some zR
 _law_web:p.fns "_law_web" = some qbf
 _law_some:p.fns "_law_some" = some qal
structure qeE(p:Pr):Prop where
 _law_cell_at:p.fns "_law_cell_at" = some zF
 _law_stir:p.fns "_law_stir" = some zR
 _law_web:p.fns "_law_web" = some qbf
theorem Base.draw{p:Pr}(B:Base p):qeE p:=⟨B._law_cell_at,B._law_stir,B._law_web⟩
structure Hds(p:Pr):Prop where
 hoods:p.fns "hoods" = some qce
 hood_of:p.fns "hood_of" = some qbe
 are_tied:p.fns "are_tied" = some qaN
structure Nbr(p:Pr):Prop where
 hoods:p.fns "hoods" = some qce
 hood_of:p.fns "hood_of" = some qbe
 are_tied:p.fns "are_tied" = some qaN
 mark_of:p.fns "mark_of" = some qbK
 marks_of:p.fns "marks_of" = some qbn
structure qnc(p:Pr):Prop extends Nbr p where
 _law_masks:p.fns "_law_masks" = some qaL
noncomputable instance {p:Pr}:CoeOut (Base p) (Web p):=⟨fun b=>b.toWeb⟩
theorem Nbr.hds{p:Pr}(O:Nbr p):Hds p:=⟨O.hoods,O.hood_of,O.are_tied⟩
noncomputable instance {p:Pr}:CoeOut (Base p) (qeE p):=⟨fun b=>b.draw⟩
noncomputable instance {p:Pr}:CoeOut (Nbr p) (Hds p):=⟨fun b=>b.hds⟩
noncomputable instance {p:Pr}:CoeOut (qnc p) (Nbr p):=⟨fun b=>b.toNbr⟩
structure qkf(p:Pr):Prop where
 is_place:p.fns "is_place" = some qaP
 is_some:p.fns "is_some" = some qbb
structure qbT(p:Pr):Prop where
 is_place:p.fns "is_place" = some qaP
 is_some:p.fns "is_some" = some qbb
 need_some:p.fns "need_some" = some qaT
theorem qbT.a{p:Pr}(b:qbT p):qkf p:=⟨b.is_place,b.is_some⟩
noncomputable instance {p:Pr}:CoeOut (qbT p) (qkf p):=⟨fun b=>b.a⟩
section
variable{p:Pr}
theorem qZ{k:Nat}{x:Str}{f:Fn}{ds:List D}(h:p.fns x=some f):qc p (k+1) x ds=qat ⟨qc p k,p.glb,p.sub,p.cat⟩ f ds:=by
 rw [qc,h]
theorem qcT{k:Nat}{x:Str}{f:Fn}{ds:List D}{τ:Env}{Q:D→Prop}(hf:p.fns x=some f)(hl:ds.length=f.ps)(hτ:ds.map some++List.replicate (f.N-f.ps) none=τ)(h:Ends (fun _=>False) Q (qq (wAt p k) f.body τ)):∃d,qc p (k+1) x ds=.ok d∧Q d:=by
 rw [qZ hf,qat,if_pos hl,hτ];cases z:qq ⟨qc p k,p.glb,p.sub,p.cat⟩ f.body τ with
 |rt d=>rw [z]at h;exact⟨d,rfl,h⟩
 |nx _=>rw [z]at h;exact h.elim
 |_=>rw [z]at h;exact h.elim
section
variable(B:Web p)
include B
theorem is_whole{k:Nat}(i:Int):qc p (k+1) "is_whole" [.int i]=.ok (.bl true):=by rw [qZ B.is_whole];rfl
theorem is_between{k:Nat}(i a b:Int)(h:a≤i∧i≤b):qc p (k+2) "is_between" [.int i,.int a,.int b]=.ok (.bl true):=by
 rw [qZ B.is_between];refine zw rfl rfl ?_;simp [KG.Z,qaJ,is_whole B,qi,qgY,h.1,h.2]
theorem is_pair{k:Nat}(a b:D):qc p (k+1) "is_pair" [.tup [a,b]]=.ok (.bl true):=by
 rw [qZ B.is_pair];refine zw rfl rfl ?_;simp [KG.Z,qbI,b1,seq?,qi,D.asks,D.plain,D.deep,D.eqv]
theorem is_tie{k:Nat}(a b m:Int)(h:0≤a∧a<b∧b<m):qc p (k+2) "is_tie" [.tup [.int a,.int b],.int m]=.ok (.bl true):=by
 rw [qZ B.is_tie];refine zw rfl rfl ?_;simp [KG.Z,qct,is_pair B,is_whole B,qi,qgY,h.1,h.2.1,h.2.2]
theorem rises{k:Nat}(xs:List D)(hz:xs.length≤28)(h:∀(i:Nat) (q:i+1<xs.length),qi .lt xs[i] xs[i+1]=.ok true):qc p (k+1) "rises" [.tup xs]=.ok (.bl true):=by
 rw [qZ B.rises];refine zw rfl rfl ?_;have hr:qe ((xs.length:Int)-1)=true:=by simp [qe];lia
 have hc:evE ⟨qc p k,p.glb,p.sub,p.cat⟩ (.comp (.rng (.op .sub (.bi .len (.cons (.var 0) .nil)) (.con (.int 1)))) [none,none,some 0] (.nm 1) .yes (.cmp .lt (.ix (.var 2) (.var 1)) (.ix (.var 2) (.op .add (.var 1) (.con (.int 1)))))) [some (.tup xs)]=.ok (.lst ((zD 0 ((xs.length:Int)-1).toNat).flatMap fun _=>[.bl true])):=by
  refine qbS (c:=[some (.tup xs)]) ?_ ?_ rfl ?_
  ·simp [KG.Z,b1,seq?,op2,hr]
  ·simp [zD,SZ];lia
  ·intro x hx;simp only [zD,List.mem_map,List.mem_range]at hx;obtain⟨i,hi,rfl⟩:=hx;have e1:atI xs ((0:Int)+(i:Int))=some xs[i]:=by rw [Int.zero_add];exact qfd (by lia)
   have e2:atI xs ((0:Int)+(i:Int)+1)=some xs[i+1]:=by rw [Int.zero_add];exact qfd (i:=i+1) (by lia)
   have e3:=h i (by lia);simp only [Int.zero_add]at e1 e2;simp [KG.Z,ixD,op2,e1,e2,e3]
 simp [KG.Z,qdc,hc,b1,all_true,qoK]
theorem is_web{k:Nat}{m:Int}{ts:List (Int×Int)}(h:GW m ts):qc p (k+3) "is_web" [wb m ts]=.ok (.bl true):=by
 rw [qZ B.is_web];refine zw rfl rfl ?_;have hr:=rises B (k:=k+1) (ts.map prD) (by simpa using h.len) (fun i q=>by
  rw [List.getElem_map,List.getElem_map];exact qst (List.pairwise_iff_getElem.mp h.lt i (i+1) (by simp at q;lia) (by simpa using q) (by lia)))
 have hc:evE ⟨qc p (k+2),p.glb,p.sub,p.cat⟩ (.comp (.seq (.var 2)) [none,none,some 1] (.nm 1) .yes (.call "is_tie" (.cons (.var 1) (.cons (.var 2) .nil)))) [some (wb m ts),some (.int m),some (.tup (ts.map prD))]=.ok (.lst ((ts.map prD).flatMap fun _=>[.bl true])):=by
  refine qbS (c:=[some (.int m)]) ?_ ?_ rfl ?_
  ·simp [KG.Z,seq?]
  ·simp [SZ];have:=h.len;lia
  ·intro x hx;rw [List.mem_map]at hx;obtain⟨t,ht,rfl⟩:=hx;have e:=is_tie B (k:=k) t.1 t.2 m (h.ok t ht);have e':qc p (k+2) "is_tie" [prD t,.int m]=.ok (.bl true):=e;simp [KG.Z,e']
 simp [KG.Z,qcp,is_pair B,is_between B m 1 8 ⟨h.lo,h.hi⟩,B.MOST,hc,b1,all_true,hr]
theorem need_web{k:Nat}{m:Int}{ts:List (Int×Int)}(h:GW m ts):qc p (k+4) "need_web" [wb m ts]=.ok .non:=by
 rw [qZ B.need_web];simp only [qat];simp [KG.Z,qbg,is_web B h]
end
theorem qkc(hf:p.fns "_law_stir" = some zR){k:Nat}(c j:Int):qc p (k+1) "_law_stir" [.int c,.int j]=.ok (.int (st c j)):=by
 have s1:small 977=true:=by decide
 have s2:small 48271=true:=by decide
 have s3:small 40692=true:=by decide
 have s4:small 69621=true:=by decide
 have s5:=qkR ((c%2147483647+977 * j+1) * 48271) 2147483647 (by decide) (by decide);rw [qZ hf];refine zw rfl rfl ?_;simp [KG.Z,zR,op2,s1,s2,s3,s4,s5,st]
theorem qnF(hf:p.fns "_law_cell_at" = some zF){k:Nat}(ns:List Int):∃x:Int,qc p (k+1) "_law_cell_at" [.lst (ns.map D.int),.int 0]=.ok (.int x):=by
 cases ns with
 |nil=>
  refine⟨0,?_⟩;have e1:b1 .len [.lst []]=.ok (.int 0):=rfl;have e3:qi .lt (.int 0) (.int 0)=.ok false:=rfl;rw [qZ hf];refine zw rfl rfl ?_;simp [KG.Z,zF,e1,e3]
 |cons x r=>
  refine⟨x,?_⟩;have e1:b1 .len [.lst ((x::r).map D.int)]=.ok (.int (r.length+1:Nat)):=by
   show R.ok (D.int ((x::r).map D.int).length)=_;simp
  have e2:ixD (.lst ((x::r).map D.int)) (.int 0)=.ok (.int x):=by
   have:=qfd (xs:=(x::r).map D.int) (i:=0) (by simp);simp only [ixD];rw [show (0:Int)=((0:Nat):Int)from rfl,this];rfl
  simp only [List.map_cons]at e1 e2;have h0:(0:Int)<((r.length+1:Nat):Int):=by lia
  have e3:qi .lt (.int 0) (.int ((r.length+1:Nat):Int))=.ok true:=by rw [lt_int,decide_eq_true h0]
  generalize ((r.length+1:Nat):Int)=N at *;rw [qZ hf];refine zw rfl rfl ?_;simp [KG.Z,zF,e1,e2,e3]
section
variable(B:Base p)
include B
end
section
variable(B:Web p)(S:qkf p)
include B S
theorem is_place{k:Nat}(i m:Int)(t:D)(h:0≤i∧i<m):qc p (k+3) "is_place" [.tup [.int m,t],.int i]=.ok (.bl true):=by
 rw [qZ S.is_place];refine zw rfl rfl ?_;simp [KG.Z,qaP,ixD,atI,ixN,op2,is_between B i 0 (m-1) (by lia)]
theorem is_some{k:Nat}{m:Int}{t:D}{s:List Int}(h:GS m s):qc p (k+4) "is_some" [.tup [.int m,t],tu s]=.ok (.bl true):=by
 rw [qZ S.is_some];refine zw rfl rfl ?_;have hr:=rises B (k:=k+2) (s.map D.int) (by simp;have:=h.len;lia) (fun i q=>by
  rw [List.getElem_map,List.getElem_map];have:=List.pairwise_iff_getElem.mp h.lt i (i+1) (by simp at q;lia) (by simpa using q) (by lia);simp [qi,qgY,this])
 have hc:evE ⟨qc p (k+3),p.glb,p.sub,p.cat⟩ (.comp (.seq (.var 1)) [none,none,some 0] (.nm 1) .yes (.call "is_place" (.cons (.var 2) (.cons (.var 1) .nil)))) [some (.tup [.int m,t]),some (tu s)]=.ok (.lst ((s.map D.int).flatMap fun _=>[.bl true])):=by
  refine qbS (c:=[some (.tup [.int m,t])]) ?_ ?_ rfl ?_
  ·simp [KG.Z,seq?]
  ·simp [SZ];have:=h.len;lia
  ·intro x hx;rw [List.mem_map]at hx;obtain⟨i,hi,rfl⟩:=hx;simp [KG.Z,is_place B S i m t (h.ok i hi)]
 simp [KG.Z,qbb,hc,b1,all_true,hr]
omit S in
theorem need_some(S:qbT p){k:Nat}{m:Int}{t:D}{s:List Int}(h:GS m s):qc p (k+5) "need_some" [.tup [.int m,t],tu s]=.ok .non:=by
 rw [qZ S.need_some];simp only [qat];simp [KG.Z,qaT,is_some B S h]
end
section
variable(B:Web p)(O:Hds p)
include O
theorem are_tied{k:Nat}(ts:List (Int×Int))(a b:Int):qc p (k+1) "are_tied" [.tup (ts.map prD),.int a,.int b]=.ok (.bl (qax ts a b)):=by
 rw [qZ O.are_tied];refine zw rfl rfl ?_;simp [KG.Z,qaN,b1,qqD,qax,mn,mx]
theorem hood_of{k:Nat}{m:Int}{ts:List (Int×Int)}(h:GW m ts)(a:Int):qc p (k+2) "hood_of" [wb m ts,.int a]=.ok (tu (hd m ts a)):=by
 rw [qZ O.hood_of];refine zw rfl rfl ?_;have h1:=h.lo;have h2:=h.hi;have hc:evE ⟨qc p (k+1),p.glb,p.sub,p.cat⟩ (.comp (.rng (.var 2)) [none,none,some 1,some 3] (.nm 1) (.or (.cmp .eq (.var 1) (.var 2)) (.val (.call "are_tied" (.cons (.var 3) (.cons (.var 2) (.cons (.var 1) .nil)))))) (.var 1)) [some (wb m ts),some (.int a),some (.int m),some (.tup (ts.map prD))]=.ok (.lst ((hd m ts a).map D.int)):=by
  rw [hd,←qcS,←zz];refine qbS (c:=[some (.int a),some (.tup (ts.map prD))]) ?_ ?_ rfl ?_
  ·have:qe m=true:=by simp [qe];lia
   simp [KG.Z,this]
  ·simp [zD,SZ];lia
  ·intro x hx;rw [zz,List.mem_map]at hx;obtain⟨b,hb,rfl⟩:=hx;have e:qi .eq (.int b) (.int a)=.ok (b==a):=rfl;simp [KG.Z,e,are_tied O];by_cases q:b=a
   ·simp [q]
   ·simp [q];cases qax ts a b<;>simp
 simp [KG.Z,qbe,hc,b1,seq?]
include B
theorem hoods{k:Nat}{m:Int}{ts:List (Int×Int)}(h:GW m ts):qc p (k+5) "hoods" [wb m ts]=.ok (.tup ((rng m).map fun a=>tu (hd m ts a))):=by
 rw [qZ O.hoods];refine zw rfl rfl ?_;have h1:=h.lo;have h2:=h.hi;have hc:evE ⟨qc p (k+4),p.glb,p.sub,p.cat⟩ (.comp (.rng (.ix (.var 0) (.con (.int 0)))) [none,none,some 0] (.nm 1) .yes (.call "hood_of" (.cons (.var 2) (.cons (.var 1) .nil)))) [some (wb m ts)]=.ok (.lst ((rng m).map fun a=>tu (hd m ts a))):=by
  rw [←qni,←zz];refine qbS (c:=[some (wb m ts)]) ?_ ?_ rfl ?_
  ·have:qe m=true:=by simp [qe];lia
   simp [KG.Z,this,ixD,atI,ixN]
  ·simp [zD,SZ];lia
  ·intro x hx;rw [zz,List.mem_map]at hx;obtain⟨b,hb,rfl⟩:=hx;simp [KG.Z,hood_of O h]
 simp [KG.Z,qce,need_web B h,hc,b1,seq?]
end
section
variable(O:Nbr p)
include O
theorem mark_of{k:Nat}(n s:List Int)(hz:s.length≤8):qc p (k+1) "mark_of" [tu n,tu s]=.ok (tu (s.filter fun x=>n.any fun t=>t==x)):=by
 rw [qZ O.mark_of];refine zw rfl rfl ?_;have hc:evE ⟨qc p k,p.glb,p.sub,p.cat⟩ (.comp (.seq (.var 1)) [none,none,some 0] (.nm 1) (.cmp .isin (.var 1) (.var 2)) (.var 1)) [some (tu n),some (tu s)]=.ok (.lst ((s.filter fun x=>n.any fun t=>t==x).map D.int)):=by
  rw [←qcS];refine qbS (c:=[some (tu n)]) ?_ ?_ rfl ?_
  ·simp [KG.Z,seq?]
  ·simp [SZ];lia
  ·intro x hx;rw [List.mem_map]at hx;obtain⟨b,hb,rfl⟩:=hx;simp [KG.Z,qiG];by_cases q:b∈n<;>simp [q]
 simp [KG.Z,qbK,hc,b1,seq?]
theorem marks_of{k:Nat}(ns:List Int)(f:Int→List Int)(s:List Int)(hz:s.length≤8)(hn:ns.length≤8):qc p (k+2) "marks_of" [.tup (ns.map fun a=>tu (f a)),tu s]=.ok (.lst (ns.map fun a=>tu (s.filter fun x=>(f a).any fun t=>t==x))):=by
 rw [qZ O.marks_of];refine zw rfl rfl ?_;have hc:evE ⟨qc p (k+1),p.glb,p.sub,p.cat⟩ (.comp (.seq (.var 0)) [none,none,some 1] (.nm 1) .yes (.call "mark_of" (.cons (.var 1) (.cons (.var 2) .nil)))) [some (.tup (ns.map fun a=>tu (f a))),some (tu s)]=.ok (.lst ((ns.map fun a=>tu (f a)).flatMap fun x=>match qc p (k+1) "mark_of" [x,tu s]with | .ok d=>[d]|_=>[])):=by
  refine qbS (c:=[some (tu s)]) ?_ ?_ rfl ?_
  ·simp [KG.Z,seq?]
  ·simp [SZ];lia
  ·intro x hx;rw [List.mem_map]at hx;obtain⟨b,hb,rfl⟩:=hx;simp [KG.Z,mark_of O (f b) s hz]
 have he:((ns.map fun a=>tu (f a)).flatMap fun x=>match qc p (k+1) "mark_of" [x,tu s]with | .ok d=>[d]|_=>[])=ns.map fun a=>tu (s.filter fun x=>(f a).any fun t=>t==x):=by
  clear hc hn
  induction ns with
  |nil=>rfl
  |cons a r ih=>rw [List.map_cons,List.flatMap_cons,ih,mark_of O (f a) s hz];rfl
 simp [KG.Z,qbn,hc,he]
end
end
theorem qdu{α:Type}{w:W}{it:It}{cap:List (Option Nat)}{t:T}{elt:E}{τ c:Env}{l:List α}{f:α→D}(q:α→Bool)(g:α→D)(h:evI w it τ=.ok (l.map f))(hz:l.length≤SZ)(hc:qaz cap τ=none::none::c)
  (hb:∀a∈l,evT w t (none::some (f a)::c)=.ok (q a)∧(q a=true→evE w elt (none::some (f a)::c)=.ok (g a))):evE w (.comp it cap (.nm 1) t elt) τ=.ok (.lst ((l.filter q).map g)):=by
 have key:∀(r:List α) (v:Option D) (acc:List D),(∀x∈r,x∈l)→zA (fun x σ=>noEx ((store (.nm 1) x σ).bind fun σ'=>(evT w t σ').bind fun r=>if r then (evE w elt σ').bind fun d=>.ok (σ',[d])else .ok (σ',[]))) (r.map f) (none::v::c) acc=.ok (acc++(r.filter q).map g):=by
  intro r
  induction r with
  |nil=>intro v acc _;simp [zA]
  |cons x r ih=>
   intro v acc hm;obtain⟨h1,h2⟩:=hb x (hm x List.mem_cons_self);rw [List.map_cons,zA];have e:noEx ((store (.nm 1) (f x) (none::v::c)).bind fun σ'=>(evT w t σ').bind fun r=>if r then (evE w elt σ').bind fun d=>.ok (σ',[d])else .ok (σ',[]))=.ok (none::some (f x)::c,if q x then [g x]else []):=by
    simp only [store,R.bind_ok,List.set_cons_succ,List.set_cons_zero,h1];cases hq:q x with
    |false=>rfl
    |true=>simp only [if_true,h2 hq,R.bind_ok];rfl
   rw [e];simp only [R.bind_ok];rw [ih (some (f x)) _ fun y hy=>hm y (List.mem_cons_of_mem _ hy),List.filter_cons,List.append_assoc];cases q x<;>simp
 rw [qx,h];simp only [R.bind_ok];rw [if_neg (by simp;lia),hc,key l none [] fun _ h=>h]
 rfl
theorem qnY{α:Type}{w:W}{it:It}{cap:List (Option Nat)}{elt:E}{τ c:Env}{l:List α}{f:α→D}(g:α→D)(h:evI w it τ=.ok (l.map f))(hz:l.length≤SZ)(hc:qaz cap τ=none::none::c)
  (hb:∀a∈l,evE w elt (none::some (f a)::c)=.ok (g a)):evE w (.comp it cap (.nm 1) .yes elt) τ=.ok (.lst (l.map g)):=by
 have:=qdu (t:=.yes) (elt:=elt) (f:=f) (fun _=>true) g h hz hc fun a ha=>⟨rfl,fun _=>hb a ha⟩
 rwa [List.filter_eq_self.mpr (fun _ _=>rfl)]at this
theorem qsc{w:W}{e:E}{τ:Env}{xs:List D}(h:evE w e τ=.ok (.lst xs)):evI w (.seq e) τ=.ok xs:=by rw [evI.eq_1,h];rfl
theorem qeh{w:W}{e:E}{τ:Env}{xs:List D}(h:evE w e τ=.ok (.tup xs)):evI w (.seq e) τ=.ok xs:=by rw [evI.eq_1,h];rfl
theorem qkQ{α:Type}(l:List α)(f:α→Bool):bools? (l.map fun a=>D.bl (f a))=some (l.map f):=by
 induction l with
 |nil=>rfl
 |cons a r ih=>rw [List.map_cons,bools?,ih];rfl
theorem qqA(s:List Int):b1 .len [tu s]=.ok (.int s.length):=by
 show R.ok (D.int ((s.map D.int).length:Nat))=_;rw [List.length_map]
theorem ne_int(a b:Int):qi .ne (.int a) (.int b)=.ok (!decide (a=b)):=by
 show R.ok (!(a==b))=_
 congr 1
theorem qpa(ns:List Int)(lo hi:Option Int):∃cs:List Int,cutD (ns.map D.int) lo hi=cs.map D.int∧cs.length≤ns.length:=by
 refine⟨(ns.drop _).take _,by rw [cutD,←List.map_drop,←List.map_take],by simp;lia⟩
theorem fx{α:Type}{f:α→D}{r:List D}{x:D}{l:List α}(e:x::r=l.map f):∃a l',l=a::l'∧x=f a∧r=l'.map f:=by
 cases l with
 |nil=>cases e
 |cons a l'=>rw [List.map_cons]at e;injection e with e1 e2;exact⟨a,l',rfl,e1,e2⟩
theorem qrq{w:W}{f:Fn}{ds:List D}{τ:Env}{Q:D→Prop}(hl:ds.length=f.ps)(hτ:ds.map some++List.replicate (f.N-f.ps) none=τ)(h:Ends (fun _=>False) Q (qq w f.body τ)):∃d,qat w f ds=.ok d∧Q d:=by
 rw [qat,if_pos hl,hτ];cases z:qq w f.body τ with
 |rt d=>rw [z]at h;exact⟨d,rfl,h⟩
 |nx _=>rw [z]at h;exact h.elim
 |_=>rw [z]at h;exact h.elim
noncomputable def qco:Fn:=⟨2,2,false,(.cons (.exp (.call "need_web" (.cons (.var 0) .nil))) (.cons (.exp (.call "need_some" (.cons (.var 0) (.cons (.var 1) .nil)))) (.cons (.ret (.call "places_marked" (.cons (.call "marks_of" (.cons (.call "hoods" (.cons (.var 0) .nil)) (.cons (.var 1) .nil))) (.cons (.tup .nil) .nil)))) .nil)))⟩
noncomputable def zN:Fn:=⟨2,2,false,(.cons (.ret (.bi .tuple (.cons (.comp (.enum (.var 0)) [none,none,none,some 1] (.tp [1,2]) (.cmp .eq (.var 2) (.var 3)) (.var 1)) .nil))) .nil)⟩
noncomputable def qdb:Fn:=⟨2,2,false,(.cons (.exp (.call "need_web" (.cons (.var 0) .nil))) (.cons (.exp (.call "need_some" (.cons (.var 0) (.cons (.var 1) .nil)))) (.cons (.ret (.call "spare_by" (.cons (.call "marks_of" (.cons (.call "hoods" (.cons (.var 0) .nil)) (.cons (.var 1) .nil))) (.cons (.var 1) .nil)))) .nil)))⟩
noncomputable def qbQ:Fn:=⟨2,2,false,(.cons (.ret (.bi .tuple (.cons (.comp (.seq (.var 1)) [none,none,some 0] (.nm 1) (.cmp .notin (.tup (.cons (.var 1) .nil)) (.var 2)) (.var 1)) .nil))) .nil)⟩
noncomputable def qhe:Fn:=⟨1,3,false,(.cons (.set (.nm 1) (.lst .nil)) (.cons (.for (.nm 2) (.rng (.var 0)) (.cons (.set (.nm 1) (.op .add (.var 1) (.comp (.rng2 (.op .add (.var 2) (.con (.int 1))) (.var 0)) [none,none,some 2] (.nm 1) .yes (.tup (.cons (.var 2) (.cons (.var 1) .nil)))))) .nil)) (.cons (.ret (.var 1)) .nil)))⟩
noncomputable def qgO:Fn:=⟨2,5,false,(.cons (.set (.nm 2) (.lst .nil)) (.cons (.for (.tp [3,4]) (.enum (.call "_law_pairs" (.cons (.var 0) .nil))) (.cons (.ite (.and (.cmp .eq (.op .mod (.var 1) (.con (.int 2))) (.con (.int 0))) (.cmp .eq (.op .mod (.op .shr (.op .fdiv (.var 1) (.con (.int 2))) (.var 3)) (.con (.int 2))) (.con (.int 1)))) (.cons (.app 2 (.var 4)) .nil) .nil) (.cons (.ite (.and (.cmp .eq (.op .mod (.var 1) (.con (.int 2))) (.con (.int 1))) (.cmp .lt (.op .mod (.call "_law_stir" (.cons (.var 1) (.cons (.var 3) .nil))) (.con (.int 5))) (.op .add (.con (.int 1)) (.op .mod (.op .fdiv (.var 1) (.con (.int 2))) (.con (.int 3)))))) (.cons (.app 2 (.var 4)) .nil) .nil) .nil))) (.cons (.ret (.tup (.cons (.var 0) (.cons (.bi .tuple (.cons (.own 2) .nil)) .nil)))) .nil)))⟩
noncomputable def qfL:Fn:=⟨2,2,false,(.cons (.ite (.cmp .eq (.op .mod (.var 1) (.con (.int 2))) (.con (.int 0))) (.cons (.ret (.bi .tuple (.cons (.comp (.rng (.var 0)) [none,none,some 1] (.nm 1) (.cmp .eq (.op .mod (.op .shr (.op .fdiv (.var 2) (.con (.int 2))) (.var 1)) (.con (.int 2))) (.con (.int 1))) (.var 1)) .nil))) .nil) .nil) (.cons (.ret (.bi .tuple (.cons (.comp (.rng (.var 0)) [none,none,some 1] (.nm 1) (.cmp .lt (.op .mod (.call "_law_stir" (.cons (.var 2) (.cons (.op .add (.var 1) (.con (.int 60))) .nil))) (.con (.int 4))) (.op .add (.con (.int 1)) (.op .mod (.op .fdiv (.var 2) (.con (.int 2))) (.con (.int 3))))) (.var 1)) .nil))) .nil))⟩
structure Un(p:Pr):Prop where
 places_marked:p.fns "places_marked" = some zN
 unheld:p.fns "unheld" = some qco
structure Lw(p:Pr):Prop where
 _law_stir:p.fns "_law_stir" = some zR
 _law_pairs:p.fns "_law_pairs" = some qhe
 _law_web_by:p.fns "_law_web_by" = some qgO
 _law_some_by:p.fns "_law_some_by" = some qfL
section
variable{p:Pr}
theorem qmm{xs:List D}:∀{k:Nat}{x:D},x∈zV k xs→∃(i:Nat) (d:D),d∈xs∧x=.tup [.int i,d]:=by
 induction xs with
 |nil=>intro k x h;cases h
 |cons a r ih=>
  intro k x h;rw [zV,List.mem_cons]at h;rcases h with rfl|h
  ·exact⟨k,a,List.mem_cons_self,rfl⟩
  ·obtain⟨i,d,h1,h2⟩:=ih h;exact⟨i,d,List.mem_cons_of_mem _ h1,h2⟩
theorem qmz{xs:List D}:∀{k:Nat},(zV k xs).length=xs.length:=by
 induction xs with
 |nil=>intro k;rfl
 |cons a r ih=>intro k;rw [zV,List.length_cons,ih,List.length_cons]
theorem places_marked(hf:p.fns "places_marked" = some zN){k:Nat}(m:Int)(hm:m≤8)(f:Int→List Int)(z:List Int):qc p (k+1) "places_marked" [.lst ((rng m).map fun a=>tu (f a)),(tu z)]=.ok (tu ((rng m).filter fun a=>decide (f a=z))):=by
 rw [qZ hf];refine zw rfl rfl ?_;have hc:evE ⟨qc p k,p.glb,p.sub,p.cat⟩ (.comp (.enum (.var 0)) [none,none,none,some 1] (.tp [1,2]) (.cmp .eq (.var 2) (.var 3)) (.var 1)) [some (.lst ((rng m).map fun a=>tu (f a))),some ((tu z))]=.ok (.lst ((zV 0 ((rng m).map fun a=>tu (f a))).flatMap fun x=>match x with | .tup [i,d]=>(match qi .eq d ((tu z))with | .ok true=>[i]|_=>[])|_=>[])):=by
  refine comp2 (c:=[some ((tu z))]) ?_ ?_ rfl ?_
  ·simp [KG.Z]
  ·rw [qmz];simp [SZ,zS];lia
  ·intro x hx;obtain⟨i,d,hd,rfl⟩:=qmm hx;rw [List.mem_map]at hd;obtain⟨b,hb,rfl⟩:=hd;refine⟨_,_,rfl,?_⟩;have e:qi .eq (tu (f b)) (tu z)=.ok (decide (f b=z)):=qiN (f b) z;simp [KG.Z,e];by_cases q:f b=z
   ·simp [q]
   ·simp [q]
 have he:∀(n j:Nat),((zV j (((List.range' j n).map fun(i:Nat)=>(i:Int)).map fun a=>tu (f a))).flatMap fun x=>match x with | .tup [i,d]=>(match qi .eq d ((tu z))with | .ok true=>[i]|_=>[])|_=>[])=((((List.range' j n).map fun(i:Nat)=>(i:Int)).filter fun a=>decide (f a=z)).map D.int):=by
  intro n
  induction n with
  |zero=>intro j;rfl
  |succ n ih=>
   intro j;rw [List.range'_succ,List.map_cons,List.map_cons,zV,List.flatMap_cons,ih (j+1),List.filter_cons];have e:qi .eq (tu (f j)) (tu z)=.ok (decide (f j=z)):=qiN (f j) z;simp only [e];by_cases q:f j=z
   ·simp [q]
   ·simp [q]
 have he':=he m.toNat 0;rw [←List.range_eq_range']at he';rw [show (List.range m.toNat).map (fun(i:Nat)=>(i:Int))=rng m from rfl]at he';simp [KG.Z,zN,hc,he',b1,seq?]
noncomputable def un(m:Int)(ts:List (Int×Int))(s:List Int):List Int:=(rng m).filter fun a=>decide (mk m ts s a=[])
theorem unheld(B:Web p)(S:qbT p)(O:Nbr p)(U:Un p){k:Nat}{m:Int}{ts:List (Int×Int)}(h:GW m ts){s:List Int}(g:GS m s):qc p (k+6) "unheld" [wb m ts,tu s]=.ok (tu (un m ts s)):=by
 have e1:=marks_of O (k:=k+3) (rng m) (hd m ts) s g.len (by rw [zS];have:=h.hi;lia);have e2:=places_marked U.places_marked (k:=k+4) m h.hi (fun a=>s.filter fun x=>(hd m ts a).any fun t=>t==x) [];have e2:qc p (k+5) "places_marked" [.lst ((rng m).map fun a=>tu (s.filter fun x=>(hd m ts a).any fun t=>t==x)),.tup []]=_:=e2;rw [qZ U.unheld];refine zw rfl rfl ?_;simp [KG.Z,qco,need_web B h,need_some B S g,hoods B O h,e1,e2];simp [un,mk]
theorem GS.none{m:Int}:GS m []:=⟨List.Pairwise.nil,by simp,by simp⟩
theorem GS.all{m:Int}(h1:1≤m)(h2:m≤8):GS m (rng m):=⟨qhT m,fun i hi=>qej.mp hi,by rw [zS];lia⟩
end
abbrev L(M c:Int)(m:Int)(ts:List (Int×Int))(b a dr ro:Option D):Env:=[some (.int c),some (.int M),some (.int m),some (.int (c/M)),some (.int (c/M%6)),some (.lst (ts.map prD)),b,a,dr,ro]
noncomputable def qnP:S:=(.set (.nm 8) (.op .band (.op .shr (.op .fdiv (.var 3) (.con (.int 6))) (.op .add (.op .fdiv (.op .mul (.var 6) (.op .sub (.var 6) (.con (.int 1)))) (.con (.int 2))) (.var 7))) (.con (.int 1))))
noncomputable def qrC:S:=(.ite (.cmp .eq (.var 4) (.con (.int 3))) (.cons (.set (.nm 8) (.op .fdiv (.op .mod (.call "_law_stir" (.cons (.var 0) (.cons (.op .add (.op .mul (.con (.int 8)) (.var 7)) (.var 6)) .nil))) (.con (.int 3))) (.con (.int 2)))) .nil) .nil)
noncomputable def qrj:S:=(.ite (.cmp .eq (.var 4) (.con (.int 4))) (.cons (.set (.nm 8) (.op .fdiv (.op .add (.op .mod (.call "_law_stir" (.cons (.var 0) (.cons (.op .add (.op .mul (.con (.int 8)) (.var 7)) (.var 6)) .nil))) (.con (.int 4))) (.con (.int 2))) (.con (.int 3)))) .nil) .nil)
noncomputable def qsd:S:=(.ite (.cmp .eq (.var 4) (.con (.int 5))) (.cons (.set (.nm 9) (.lst (.cons (.cmp .eq (.var 6) (.op .add (.var 7) (.con (.int 1)))) (.cons (.or (.cmp .eq (.var 6) (.op .add (.var 7) (.con (.int 1)))) (.cmp .eq (.op .sub (.var 6) (.var 7)) (.op .sub (.var 2) (.con (.int 1))))) (.cons (.cmp .eq (.var 7) (.con (.int 0))) (.cons (.con (.bl true)) (.cons (.and (.cmp .eq (.var 6) (.op .add (.var 7) (.con (.int 1)))) (.cmp .lt (.op .mod (.var 7) (.con (.int 3))) (.con (.int 2)))) .nil))))))) (.cons (.set (.nm 8) (.bi .int (.cons (.ix (.var 9) (.op .mod (.op .fdiv (.var 3) (.con (.int 6))) (.con (.int 5)))) .nil))) .nil)) .nil)
noncomputable def qrL:S:=(.ite (.cmp .eq (.var 8) (.con (.int 1))) (.cons (.app 5 (.tup (.cons (.var 7) (.cons (.var 6) .nil)))) .nil) .nil)
noncomputable def win:Ss:=(.cons qnP (.cons qrC (.cons qrj (.cons qsd (.cons qrL .nil)))))
abbrev LQ(M c:Int)(n:Int)(ts:List (Int×Int))(b a:Int):Env→Prop:=fun σ=>∃(i:Int) (v4:Option D),σ=L M c n ts (some (.int b)) (some (.int a)) (some (.int i)) v4
section
variable{p:Pr}{k:Nat}{M c:Int}{n:Int}{ts:List (Int×Int)}{a b:Int}{i:Int}{v3 v4:Option D}{Q:D→Prop}
theorem w0(ha:0≤a)(hb0:0≤b)(hb:b<8):Ends (LQ M c n ts b a) Q (evS (wAt p (k+1)) qnP (L M c n ts (some (.int b)) (some (.int a)) v3 v4)):=by
 have hbs:small b=true:=by simp [small];lia
 have hsh:0≤b * (b-1)/2+a:=by
  have:0≤b * (b-1):=by
   by_cases q:b=0
   ·rw [q];decide
   ·exact Int.mul_nonneg (by lia) (by lia)
  lia
 rw [qnP];simp [KG.Z,op2,hbs,hsh];exact⟨_,_,rfl⟩
theorem w1(B:qeE p):Ends (LQ M c n ts b a) Q (evS (wAt p (k+1)) qrC (L M c n ts (some (.int b)) (some (.int a)) (some (.int i)) v4)):=by
 have s8:small 8=true:=by decide
 refine qdg (v:=decide (c/M%6=3)) (by simp [KG.Z,eq_int]) (fun _=>zZ (K:=LQ M c n ts b a) ?_ fun _ h=>zI h) fun _=>zI ⟨_,_,rfl⟩
 simp [KG.Z,op2,s8,qkc B._law_stir];exact⟨_,_,rfl⟩
theorem w2(B:qeE p):Ends (LQ M c n ts b a) Q (evS (wAt p (k+1)) qrj (L M c n ts (some (.int b)) (some (.int a)) (some (.int i)) v4)):=by
 have s8:small 8=true:=by decide
 refine qdg (v:=decide (c/M%6=4)) (by simp [KG.Z,eq_int]) (fun _=>zZ (K:=LQ M c n ts b a) ?_ fun _ h=>zI h) fun _=>zI ⟨_,_,rfl⟩
 simp [KG.Z,op2,s8,qkc B._law_stir];exact⟨_,_,rfl⟩
theorem w3:Ends (LQ M c n ts b a) Q (evS (wAt p (k+1)) qsd (L M c n ts (some (.int b)) (some (.int a)) (some (.int i)) v4)):=by
 have hrow:∃b1 b2 b3 b5:Bool,evE (wAt p (k+1)) (.lst (.cons (.cmp .eq (.var 6) (.op .add (.var 7) (.con (.int 1)))) (.cons (.or (.cmp .eq (.var 6) (.op .add (.var 7) (.con (.int 1)))) (.cmp .eq (.op .sub (.var 6) (.var 7)) (.op .sub (.var 2) (.con (.int 1))))) (.cons (.cmp .eq (.var 7) (.con (.int 0))) (.cons (.con (.bl true)) (.cons (.and (.cmp .eq (.var 6) (.op .add (.var 7) (.con (.int 1)))) (.cmp .lt (.op .mod (.var 7) (.con (.int 3))) (.con (.int 2)))) .nil)))))) (L M c n ts (some (.int b)) (some (.int a)) (some (.int i)) v4)=.ok (.lst [.bl b1,.bl b2,.bl b3,.bl true,.bl b5]):=by
  by_cases q1:b=a+1
  ·exact⟨true,true,decide (a=0),decide (a%3<2),by simp [KG.Z,op2,eq_int,lt_int,q1]⟩
  ·exact⟨false,decide (b-a=n-1),decide (a=0),false,by simp [KG.Z,op2,eq_int,lt_int,q1]⟩
 obtain⟨b1,b2,b3,b5,hrow⟩:=hrow;have hix:∃z:Bool,ixD (.lst [.bl b1,.bl b2,.bl b3,.bl true,.bl b5]) (.int (c/M/6%5))=.ok (.bl z):=by
  have:c/M/6%5=0∨c/M/6%5=1∨c/M/6%5=2∨c/M/6%5=3∨c/M/6%5=4:=by lia
  rcases this with h|h|h|h|h<;>rw [h]
  ·exact⟨b1,rfl⟩
  ·exact⟨b2,rfl⟩
  ·exact⟨b3,rfl⟩
  ·exact⟨true,rfl⟩
  ·exact⟨b5,rfl⟩
 obtain⟨z,hix⟩:=hix;have hint:EV.b1 .int [.bl z]=.ok (.int (if z then 1 else 0)):=rfl;refine qdg (v:=decide (c/M%6=5)) (by simp [KG.Z,eq_int]) (fun _=>?_) fun _=>zI ⟨_,_,rfl⟩
 refine zr (σ:=L M c n ts (some (.int b)) (some (.int a)) (some (.int i)) (some (.lst [.bl b1,.bl b2,.bl b3,.bl true,.bl b5]))) (by rw [zL,hrow];rfl) ?_;refine zZ (K:=LQ M c n ts b a) ?_ fun _ h=>zI h
 simp [KG.Z,op2,hix,hint];exact⟨_,_,rfl⟩
theorem w4(hl:ts.length<SZ):Ends (fun σ=>∃(us:List (Int×Int)) (v4:Option D),(us=ts∨us=ts++[(a,b)])∧σ=L M c n us (some (.int b)) (some (.int a)) (some (.int i)) v4) Q (evS (wAt p (k+1)) qrL (L M c n ts (some (.int b)) (some (.int a)) (some (.int i)) v4)):=by
 refine qdg (v:=decide (i=1)) (by simp [KG.Z,eq_int]) (fun _=>?_) fun _=>zI ⟨ts,_,.inl rfl,rfl⟩
 refine zr (σ:=L M c n (ts++[(a,b)]) (some (.int b)) (some (.int a)) (some (.int i)) v4) ?_ (zI ⟨_,_,.inr rfl,rfl⟩);simp [KG.Z,hl]
 rfl
theorem qrp(B:qeE p)(ha:0≤a)(hb0:0≤b)(hb:b<8)(hl:ts.length<SZ):Ends (fun σ=>∃(us:List (Int×Int)) (v3 v4:Option D),(us=ts∨us=ts++[(a,b)])∧σ=L M c n us (some (.int b)) (some (.int a)) v3 v4) Q (qq (wAt p (k+1)) win (L M c n ts (some (.int b)) (some (.int a)) v3 v4)):=by
 refine zZ (w0 ha hb0 hb) ?_;rintro _ ⟨i,v4,rfl⟩;refine zZ (w1 B) ?_;rintro _ ⟨i,v4,rfl⟩;refine zZ (w2 B) ?_;rintro _ ⟨i,v4,rfl⟩;refine zZ w3 ?_;rintro _ ⟨i,v4,rfl⟩;refine zZ (w4 hl) ?_;rintro _ ⟨us,v4,h,rfl⟩;exact zI ⟨us,_,_,h,rfl⟩
end
theorem qpP{p:Pr}(B:qeE p){k:Nat}(M c:Int)(hM:1≤M∧M≤8):∃ts,GW (1+c%M) ts∧qc p (k+2) "_law_web" [.int c,.int M]=.ok (wb (1+c%M) ts):=by
 have q1:=Int.emod_nonneg c (show M≠0 by lia);have q2:=Int.emod_lt_of_pos c (show 0<M by lia);have h1:1≤1+c%M:=by lia
 have h2:1+c%M≤8:=by lia
 have p0:0<M:=by lia
 have p1:M<1000000000000000000000000000000:=by lia
 generalize hn:1+c%M=n at h1 h2 ⊢;have P:=pok n h1 h2
 suffices h:∃d,qc p (k+2) "_law_web" [.int c,.int M]=.ok d∧∃ts,GW n ts∧d=wb n ts by
  obtain⟨d,e,ts,g,rfl⟩:=h;exact⟨ts,g,e⟩
 refine qcT (k:=k+1) (τ:=[some (.int c),some (.int M),none,none,none,none,none,none,none,none]) B._law_web rfl rfl ?_;refine zr (σ:=[some (.int c),some (.int M),some (.int n),none,none,none,none,none,none,none]) (by simp [KG.Z,op2,hn,p0]) ?_;refine zr (σ:=[some (.int c),some (.int M),some (.int n),some (.int (c/M)),none,none,none,none,none,none]) (by simp [KG.Z,op2,p0,p1]) ?_;refine zr (σ:=[some (.int c),some (.int M),some (.int n),some (.int (c/M)),some (.int (c/M%6)),none,none,none,none,none]) (by simp [KG.Z,op2,p0,p1]) ?_;refine zr (σ:=L M c n [] none none none none) (by simp [KG.Z]) ?_;have hm:qe n=true:=by simp [qe];lia
 have s1:qe 1=true:=by decide
 have hr:zD 1 (n-1).toNat=(qeH n).map D.int:=by
  rw [zD,qeH,List.map_map];rfl
 have m1:∀b∈qeH n,0≤b∧b<8:=by
  intro b hb;simp only [qeH,List.mem_map,List.mem_range]at hb;obtain⟨i,hi,rfl⟩:=hb;lia
 refine qde (ds:=(qeH n).map D.int) (fun r σ=>∃(bs:List Int) (ts:List (Int×Int)) (v1 v2 v3 v4:Option D),r=bs.map D.int∧(∀b∈bs,0≤b∧b<8)∧(ts++bs.flatMap qkv).Sublist (qcN n)∧σ=L M c n ts v1 v2 v3 v4) (by rw [←hr];simp [KG.Z,hm,s1]) ⟨_,[],none,none,none,none,rfl,m1,(by rw [qcN];simp),rfl⟩ ?_ ?_
 ·rintro x t σ ⟨bs,ts,v1,v2,v3,v4,e,hb,hs,rfl⟩;cases bs with
  |nil=>cases e
  |cons b bs=>
   rw [List.map_cons]at e;injection e with e1 e2
   subst e1 e2;obtain⟨hb0,hb8⟩:=hb b List.mem_cons_self;refine⟨L M c n ts (some (.int b)) v2 v3 v4,rfl,?_⟩;have hbm:qe b=true:=by simp [qe];lia
   refine qde (ds:=(rng b).map D.int) (fun r σ=>∃(as:List Int) (ts:List (Int×Int)) (v2 v3 v4:Option D),r=as.map D.int∧(∀a∈as,0≤a)∧(ts++(as.map fun a=>(a,b))++bs.flatMap qkv).Sublist (qcN n)∧σ=L M c n ts (some (.int b)) v2 v3 v4) (by rw [←zz];simp [KG.Z,hbm]) ⟨_,ts,_,_,_,rfl,(fun a ha=>(qej.mp ha).1),(by rw [List.flatMap_cons,←List.append_assoc]at hs;exact hs),rfl⟩ ?_ ?_
   ·rintro x t σ ⟨as,ts,v2,v3,v4,e,ha,hs,rfl⟩;cases as with
    |nil=>cases e
    |cons a as=>
     rw [List.map_cons]at e;injection e with e1 e2
     subst e1 e2;refine⟨L M c n ts (some (.int b)) (some (.int a)) v3 v4,rfl,?_⟩;have hlen:ts.length<SZ:=by
      have h1:=hs.length_le;have h2:=P.len;simp only [List.length_append]at h1;simp only [SZ];lia
     have W:=qrp B (k:=k) (M:=M) (c:=c) (n:=n) (ts:=ts) (v3:=v3) (v4:=v4) (Q:=fun d=>∃ts,GW n ts∧d=wb n ts) (ha a List.mem_cons_self) hb0 hb8 hlen;refine qqy W ?_;rintro _ ⟨us,v3,v4,h,rfl⟩;refine⟨as,us,_,v3,v4,rfl,fun a' q=>ha a' (List.mem_cons_of_mem _ q),?_,rfl⟩;rcases h with rfl|rfl
     ·refine List.Sublist.trans ?_ hs;simp
     ·simpa using hs
   ·rintro σ ⟨as,ts,v2,v3,v4,e,ha,hs,rfl⟩;cases as with
    |cons a as=>cases e
    |nil=>exact zI ⟨bs,ts,_,_,_,_,rfl,fun b' q=>hb b' (List.mem_cons_of_mem _ q),by simpa using hs,rfl⟩
 ·rintro σ ⟨bs,ts,v1,v2,v3,v4,e,hb,hs,rfl⟩;cases bs with
  |cons b bs=>cases e
  |nil=>
   have hs:ts.Sublist (qcN n):=by simpa using hs
   have hl:ts.length<64:=by have:=hs.length_le;have:=P.len;lia
   refine qdr (d:=wb n (zG ts)) ?_ ⟨_,qpk h1 h2 hs,rfl⟩;have e1:=qki ts hl;have e2:b1 .tuple [.lst ((zG ts).map prD)]=.ok (.tup ((zG ts).map prD)):=rfl;simp [KG.Z,e1,e2]
end KG
namespace KG
open EV
open PySem (Str Builtin.bitAnd Builtin.bitOr)
open L2 (atI ixN ltP)
theorem qho(a b:Nat):PySem.Builtin.bitAnd (a:Int) (b:Int)=((a &&& b:Nat):Int):=by
 simp [PySem.Builtin.bitAnd]
theorem qfP(a b:Nat):PySem.Builtin.bitOr (a:Int) (b:Int)=((a |||b:Nat):Int):=by
 have h:∀n:Nat,¬ (0≤PySem.Builtin.bitNot (n:Int)):=fun n=>by simp [PySem.Builtin.bitNot];lia
 have e:∀n:Nat,PySem.Builtin.bitNot (PySem.Builtin.bitNot (n:Int))=n:=fun n=>by simp [PySem.Builtin.bitNot];lia
 unfold PySem.Builtin.bitOr;have:PySem.Builtin.bitAnd (PySem.Builtin.bitNot (a:Int)) (PySem.Builtin.bitNot (b:Int))=PySem.Builtin.bitNot (((PySem.Builtin.bitNot (PySem.Builtin.bitNot (a:Int))).toNat ||| (PySem.Builtin.bitNot (PySem.Builtin.bitNot (b:Int))).toNat:Nat):Int):=by
  simp [PySem.Builtin.bitAnd,h a,h b]
 rw [this,e,e,e];simp
theorem qgd(n:Nat)(i:Nat):PySem.Builtin.bitAnd ((n:Int)/2^i) 1=if n.testBit i then 1 else 0:=by
 have e:((n:Int)/2^i)=((n/2^i:Nat):Int):=by simp
 rw [e,show (1:Int)=((1:Nat):Int)from rfl,qho,Nat.and_one_is_mod,Nat.testBit_eq_decide_div_mod_eq];by_cases h:n/2^i%2=1
 ·simp [h]
 ·have:n/2^i%2=0:=by lia
  simp [this]
noncomputable def bs(m:Int)(n:Nat):List Int:=(rng m).filter fun i=>n.testBit i.toNat
theorem qtv{m:Int}(h:m≤8)(n:Nat):GS m (bs m n):=
 ⟨(qhT m).sublist List.filter_sublist,fun i hi=>qej.mp (List.mem_filter.mp hi).1,Nat.le_trans (List.length_filter_le _ _) (by rw [zS];lia)⟩
theorem qrO{m:Int}{n:Nat}{i:Int}:i∈bs m n↔(0≤i∧i<m)∧n.testBit i.toNat=true:=by
 rw [bs,List.mem_filter,qej]
noncomputable def subs:Nat→List (List Int)
 | 0=>[[]]
 |j+1=>subs j++(subs j).map (· ++ [(j:Int)])
theorem qlk{m:Nat}(h:m≤8):2^m≤256:=Nat.pow_le_pow_right (by decide) h
section
variable{p:Pr}(B:Base p)
include B
end
end KG
namespace KG
open EV
open PySem (Str)
open L2 (atI ixN ltP)
theorem qem(i:Int)(h:0≤i)(h':i≤8):opI .shl 1 i=.ok (.int (1 * 2^i.toNat)):=by
 rw [opI,if_pos ⟨h,by lia,by decide⟩]
theorem qbD(i:Int):(1:Int) * 2^i.toNat=((2^i.toNat:Nat):Int):=by simp
section
variable{p:Pr}(B:Base p)
include B
end
noncomputable def near(ts:List (Int×Int))(q i:Nat):Bool:=q==i||ts.any fun t=>(t.1==(q:Int)&&t.2==(i:Int))||(t.1==(i:Int)&&t.2==(q:Int))
abbrev ln(N:List Nat):D:=.lst (N.map fun(x:Nat)=>D.int (x:Int))
structure qbH(m:Int)(ts:List (Int×Int))(N:List Nat):Prop where
 len:N.length=m.toNat
 bit:∀(q:Nat) (h:q<N.length) (i:Nat),N[q].testBit i=near ts q i
theorem qmV(q i:Nat):near [] q i=(q==i):=by simp [near]
theorem qnE(ts:List (Int×Int))(t:Int×Int)(q i:Nat):near (ts++[t]) q i=(near ts q i||((t.1==(q:Int)&&t.2==(i:Int))||(t.1==(i:Int)&&t.2==(q:Int)))):=by
 simp [near,List.any_append,Bool.or_assoc]
theorem qkm{m:Int}{ts:List (Int×Int)}{N:List Nat}(h:qbH m ts N){a b:Nat}(hab:a≠b)(ha:a<N.length)(hb:b<N.length):qbH m (ts++[((a:Int),(b:Int))]) ((N.set a (N[a] ||| 2^b)).set b (N[b] ||| 2^a)):=by
 refine⟨by simp [h.len],fun q hq i=>?_⟩;have hq':q<N.length:=by simpa using hq
 rw [qnE];by_cases qb:q=b
 ·subst qb;have e:((N.set a (N[a] ||| 2^q)).set q (N[q] ||| 2^a))[q]=N[q] ||| 2^a:=by simp
  rw [e,Nat.testBit_or,h.bit q hb i,Nat.testBit_two_pow]
  congr 1
  by_cases z:a=i
  ·subst z;simp
  ·have:((a:Int)==(q:Int))=false:=by simp;lia
   have z2:((a:Int)==(i:Int))=false:=by simp;lia
   simp [z,this,z2]
 ·by_cases qa:q=a
  ·subst qa;have e:((N.set q (N[q] ||| 2^b)).set b (N[b] ||| 2^q))[q]=N[q] ||| 2^b:=by simp [List.getElem_set,Ne.symm qb]
   rw [e,Nat.testBit_or,h.bit q ha i,Nat.testBit_two_pow]
   congr 1
   by_cases z:b=i
   ·subst z;simp
   ·have z2:((b:Int)==(i:Int))=false:=by simp;lia
    have z3:((b:Int)==(q:Int))=false:=by simp;lia
    simp [z,z2,z3]
  ·have e:((N.set a (N[a] ||| 2^b)).set b (N[b] ||| 2^a))[q]=N[q]:=by simp [List.getElem_set,Ne.symm qb,Ne.symm qa]
   have z1:((a:Int)==(q:Int))=false:=by simp;lia
   have z2:((b:Int)==(q:Int))=false:=by simp;lia
   rw [e,h.bit q hq' i];simp [z1,z2]
theorem qkD{N:List Nat}{a:Nat}(h:a<N.length):ixD (ln N) (.int (a:Int))=.ok (.int (N[a]:Nat)):=by
 have:=qfd (xs:=N.map fun(x:Nat)=>D.int (x:Int)) (i:=a) (by simpa using h);simp only [ixD];rw [this];simp
theorem qnZ{N:List Nat}{a:Nat}(h:a<N.length):ixN (N.map fun(x:Nat)=>D.int (x:Int)).length (a:Int)=some a:=by
 rw [ixN,if_pos (by lia),if_pos (by simp;lia)];simp
theorem qkK(N:List Nat)(a v:Nat):(N.map fun(x:Nat)=>D.int (x:Int)).set a (.int (v:Int))=(N.set a v).map fun(x:Nat)=>D.int (x:Int):=by
 rw [List.map_set]
theorem qjT{p:Pr}(hf:p.fns "_law_masks" = some qaL){k:Nat}{m:Int}{ts:List (Int×Int)}(h:GW m ts):∃N,qbH m ts N∧qc p (k+1) "_law_masks" [wb m ts]=.ok (ln N):=by
 have h1:=h.lo;have h2:=h.hi
 suffices hs:∃d,qc p (k+1) "_law_masks" [wb m ts]=.ok d∧∃N,qbH m ts N∧d=ln N by
  obtain⟨d,e,N,g,rfl⟩:=hs;exact⟨N,g,e⟩
 refine qcT (k:=k) (τ:=[some (wb m ts),none,none,none]) hf rfl rfl ?_;have hm:qe m=true:=by simp [qe];lia
 have hx:ixD (wb m ts) (.int 0)=.ok (.int m):=rfl;have hy:ixD (wb m ts) (.int 1)=.ok (.tup (ts.map prD)):=rfl;have hc:evE (wAt p k) (.comp (.rng (.ix (.var 0) (.con (.int 0)))) [none,none] (.nm 1) .yes (.op .shl (.con (.int 1)) (.var 1))) [some (wb m ts),none,none,none]=.ok (ln ((List.range m.toNat).map fun i=>2^i)):=by
  have he:((rng m).map D.int).flatMap (fun x=>match x with | .int i=>[D.int ((2^i.toNat:Nat):Int)]|_=>[])=((List.range m.toNat).map fun i=>2^i).map fun(x:Nat)=>D.int (x:Int):=by
   rw [rng,List.map_map,List.map_map,List.flatMap_map];generalize List.range m.toNat=l
   induction l with
   |nil=>rfl
   |cons a r ih=>rw [List.flatMap_cons,ih,List.map_cons];simp
  rw [ln,←he];refine qbS (c:=[]) ?_ ?_ rfl ?_
  ·rw [←zz];simp [KG.Z,hm,hx]
  ·simp [zS,SZ];lia
  ·intro x hx;rw [List.mem_map]at hx;obtain⟨b,hb,rfl⟩:=hx;have hb':=qej.mp hb;have e2:op2 .shl (.int 1) (.int b)=.ok (.int ((2^b.toNat:Nat):Int)):=by
    show opI .shl 1 b=_;rw [qem b hb'.1 (by lia),qbD]
   simp [KG.Z,e2]
 refine zr (σ:=[some (wb m ts),some (ln ((List.range m.toNat).map fun i=>2^i)),none,none]) (by rw [zL,hc];rfl) ?_;refine qde (ds:=ts.map prD) (fun r σ=>∃(us vs:List (Int×Int)) (N:List Nat) (v2 v3:Option D),us++vs=ts∧r=vs.map prD∧qbH m us N∧σ=[some (wb m ts),some (ln N),v2,v3]) (by simp [KG.Z,hy,seq?]) ⟨[],ts,_,none,none,rfl,rfl,⟨by simp,fun q hq i=>by rw [qmV];simp [Nat.testBit_two_pow];rfl⟩,rfl⟩ ?_ ?_
 ·rintro x r σ ⟨us,vs,N,v2,v3,e,er,hN,rfl⟩;cases vs with
  |nil=>cases er
  |cons t vs=>
   rw [List.map_cons]at er;injection er with e1 e2
   subst e1 e2;have ht:=h.ok t (by rw [←e];simp);obtain⟨a,ha⟩:∃a:Nat,t.1=a:=⟨t.1.toNat,by lia⟩
   obtain⟨b,hb⟩:∃b:Nat,t.2=b:=⟨t.2.toNat,by lia⟩
   have et:t=((a:Int),(b:Int)):=Prod.ext ha hb;subst et;have la:a<N.length:=by rw [hN.len];lia
   have lb:b<N.length:=by rw [hN.len];lia
   have hab:a≠b:=by lia
   refine⟨[some (wb m ts),some (ln N),some (.int a),some (.int b)],rfl,?_⟩;have sh:∀i:Nat,i≤8→op2 .shl (.int 1) (.int i)=.ok (.int ((2^i:Nat):Int)):=fun i hi=>by
    show opI .shl 1 (i:Int)=_;rw [qem i (by lia) (by lia),qbD];simp
   have bo:∀x y:Nat,op2 .bor (.int x) (.int y)=.ok (.int ((x |||y:Nat):Int)):=fun x y=>by
    show R.ok (D.int (PySem.Builtin.bitOr (x:Int) (y:Int)))=_;rw [qfP]
   have s1:evS (wAt p k) (.seti 1 (.var 2) (.op .bor (.ix (.own 1) (.var 2)) (.op .shl (.con (.int 1)) (.var 3)))) [some (wb m ts),some (ln N),some (.int a),some (.int b)]=.nx [some (wb m ts),some (ln (N.set a (N[a] ||| 2^b))),some (.int a),some (.int b)]:=by
    have e0:evE (wAt p k) (.op .bor (.ix (.own 1) (.var 2)) (.op .shl (.con (.int 1)) (.var 3))) [some (wb m ts),some (ln N),some (.int a),some (.int b)]=.ok (.int ((N[a] ||| 2^b:Nat):Int)):=by
     rw [qY,qY,qw,qX,qX,zc,zb];simp only [zY,List.getElem?_cons_succ,List.getElem?_cons_zero,R.bind_ok];rw [qkD la,sh b (by lia)];exact bo _ _
    rw [qan,e0];simp only [R.out_ok,zY,qX,List.getElem?_cons_succ,List.getElem?_cons_zero];rw [qnZ la];simp only [List.set_cons_succ,List.set_cons_zero];rw [qkK]
   have la':a<(N.set a (N[a] ||| 2^b)).length:=by simpa using la
   have lb':b<(N.set a (N[a] ||| 2^b)).length:=by simpa using lb
   have eb:(N.set a (N[a] ||| 2^b))[b]=N[b]:=by simp [List.getElem_set,hab]
   have s2:evS (wAt p k) (.seti 1 (.var 3) (.op .bor (.ix (.own 1) (.var 3)) (.op .shl (.con (.int 1)) (.var 2)))) [some (wb m ts),some (ln (N.set a (N[a] ||| 2^b))),some (.int a),some (.int b)]=.nx [some (wb m ts),some (ln ((N.set a (N[a] ||| 2^b)).set b (N[b] ||| 2^a))),some (.int a),some (.int b)]:=by
    have e0:evE (wAt p k) (.op .bor (.ix (.own 1) (.var 3)) (.op .shl (.con (.int 1)) (.var 2))) [some (wb m ts),some (ln (N.set a (N[a] ||| 2^b))),some (.int a),some (.int b)]=.ok (.int ((N[b] ||| 2^a:Nat):Int)):=by
     rw [qY,qY,qw,qX,qX,zc,zb];simp only [zY,List.getElem?_cons_succ,List.getElem?_cons_zero,R.bind_ok];rw [qkD lb',eb,sh a (by lia)];exact bo _ _
    rw [qan,e0];simp only [R.out_ok,zY,qX,List.getElem?_cons_succ,List.getElem?_cons_zero];rw [qnZ lb'];simp only [List.set_cons_succ,List.set_cons_zero];rw [qkK]
   exact zr s1 (zr s2 (zI ⟨us++[((a:Int),(b:Int))],vs,_,_,_,by simpa using e,rfl,qkm hN hab la lb,rfl⟩))
 ·rintro σ ⟨us,vs,N,v2,v3,e,er,hN,rfl⟩;have:vs=[]:=by cases vs with|nil=>rfl|cons _ _=>cases er
  subst this;rw [List.append_nil]at e;subst e;exact qdr (d:=ln N) (by simp [KG.Z]) ⟨N,hN,rfl⟩
theorem qlv{p:Pr}(O:qnc p){k:Nat}{m:Int}{ts:List (Int×Int)}(h:GW m ts):∃N,qbH m ts N∧qc p (k+1) "_law_masks" [wb m ts]=.ok (ln N):=qjT O._law_masks h
noncomputable def hold(m:Int)(ts:List (Int×Int))(n i:Nat):Bool:=(List.range m.toNat).any fun q=>n.testBit q&&near ts q i
theorem qoZ(N:List Nat):∀j:Nat,zV j (N.map fun(x:Nat)=>D.int (x:Int))=(List.range' j N.length).map fun(q:Nat)=>.tup [.int (q:Int),.int ((N.getD (q-j) 0:Nat):Int)]:=by
 induction N with
 |nil=>intro j;rfl
 |cons a r ih=>
  intro j;rw [List.map_cons,zV,ih (j+1),List.length_cons,List.range'_succ,List.map_cons]
  congr 1
  ·simp
  ·refine List.map_congr_left fun q hq=>?_
   have:=(List.mem_range'_1.mp hq).1;have e:q-j=(q-(j+1))+1:=by lia
   rw [e,List.getD_cons_succ]
theorem qmC{p:Pr}(hf:p.fns "_law_held" = some qaV){k:Nat}{m:Int}{ts:List (Int×Int)}{N:List Nat}(hN:qbH m ts N)(n:Nat):∃H:Nat,(∀i,H.testBit i=hold m ts n i)∧qc p (k+1) "_law_held" [ln N,.int n]=.ok (.int H):=by
 suffices hs:∃d,qc p (k+1) "_law_held" [ln N,.int n]=.ok d∧∃H:Nat,(∀i,H.testBit i=hold m ts n i)∧d=.int H by
  obtain⟨d,e,H,g,rfl⟩:=hs;exact⟨H,g,e⟩
 refine qcT (k:=k) (τ:=[some (ln N),some (.int n),none,none,none]) hf rfl rfl ?_;refine zr (σ:=[some (ln N),some (.int n),some (.int ((0:Nat):Int)),none,none]) (by simp [KG.Z]) ?_;have hl:=hN.len;refine qde (ds:=(List.range' 0 N.length).map fun(q:Nat)=>.tup [.int (q:Int),.int ((N.getD q 0:Nat):Int)]) (fun r σ=>∃(j H:Nat) (v3 v4:Option D),j≤N.length∧(r=(List.range' j (N.length-j)).map fun(q:Nat)=>.tup [.int (q:Int),.int ((N.getD q 0:Nat):Int)])∧(∀i,H.testBit i=(List.range j).any fun q=>n.testBit q&&near ts q i)∧σ=[some (ln N),some (.int n),some (.int (H:Int)),v3,v4]) (by have:=qoZ N 0;simp only [Nat.sub_zero]at this;simp [KG.Z,this]) ⟨0,0,none,none,by lia,rfl,by simp,rfl⟩ ?_ ?_
 ·rintro x r σ ⟨j,H,v3,v4,hj,er,hH,rfl⟩;by_cases hjm:j=N.length
  ·subst hjm;simp at er
  ·have ej:N.length-j=(N.length-(j+1))+1:=by lia
   have hj':j<N.length:=by lia
   rw [ej,List.range'_succ,List.map_cons]at er;injection er with e1 e2
   subst e1 e2;have eg:N.getD j 0=N[j]:=by simp [hj']
   rw [eg];refine⟨[some (ln N),some (.int n),some (.int (H:Int)),some (.int (j:Int)),some (.int (N[j]:Nat))],rfl,?_⟩;have e2:qi .eq (.int (PySem.Builtin.bitAnd ((n:Int)/2^j) 1)) (.int 1)=.ok (n.testBit j):=by
    rw [qgd n j,eq_int];cases n.testBit j<;>rfl
   refine zZ (K:=fun σ=>∃H':Nat,(∀i,H'.testBit i=(List.range (j+1)).any fun q=>n.testBit q&&near ts q i)∧σ=[some (ln N),some (.int n),some (.int (H':Int)),some (.int (j:Int)),some (.int (N[j]:Nat))]) ?_ ?_
   ·refine qdg (v:=n.testBit j) (by simp [KG.Z,op2,e2]) (fun q=>?_) fun q=>zI ⟨H,fun i=>?_,rfl⟩
    ·refine zr (σ:=[some (ln N),some (.int n),some (.int ((H |||N[j]:Nat):Int)),some (.int (j:Int)),some (.int (N[j]:Nat))]) (by simp [KG.Z,op2,qfP]) (zI ⟨H |||N[j],fun i=>?_,rfl⟩);rw [Nat.testBit_or,hH,hN.bit j hj' i,List.range_succ,List.any_append];simp [q]
    ·rw [hH,List.range_succ,List.any_append];simp [q]
   ·rintro _ ⟨H',hH',rfl⟩;exact zI ⟨j+1,H',_,_,by lia,rfl,hH',rfl⟩
 ·rintro σ ⟨j,H,v3,v4,hj,er,hH,rfl⟩;have:j=N.length:=by
   have:=congrArg List.length er;simp at this;lia
  subst this;exact qdr (d:=.int (H:Int)) (by simp [KG.Z]) ⟨H,fun i=>by rw [hH,hold,hl],rfl⟩
theorem qcE(a b:Int)(t:Int×Int)(ht:t.1<t.2):(t.1==mn a b&&t.2==mx a b)=((t.1==a&&t.2==b)||(t.1==b&&t.2==a)):=by
 rw [Bool.eq_iff_iff];simp only [mn,mx,Bool.and_eq_true,Bool.or_eq_true,beq_iff_eq];split<;>split<;>lia
theorem qcC{m:Int}{ts:List (Int×Int)}(h:GW m ts)(q i:Nat):near ts q i=(q==i||qax ts q i):=by
 rw [near,qax]
 congr 1
 rw [Bool.eq_iff_iff,List.any_eq_true,List.any_eq_true];constructor
 ·rintro⟨t,ht,e⟩;exact⟨t,ht,by rw [qcE _ _ t (h.ok t ht).2.1];exact e⟩
 ·rintro⟨t,ht,e⟩;exact⟨t,ht,by rw [qcE _ _ t (h.ok t ht).2.1]at e;exact e⟩
theorem qcz(ts:List (Int×Int))(a b:Int):qax ts a b=qax ts b a:=by
 rw [qax,qax]
 congr 1;funext t
 rw [Bool.eq_iff_iff];simp only [mn,mx,Bool.and_eq_true,beq_iff_eq];split<;>split<;>lia
theorem qeY{m:Int}{ts:List (Int×Int)}{a b:Int}:b∈hd m ts a↔(0≤b∧b<m)∧(b=a∨qax ts a b=true):=by
 rw [hd,List.mem_filter,qej];simp
theorem qlo{m:Int}{ts:List (Int×Int)}(h:GW m ts)(n:Nat)(i:Nat)(hi:(i:Int)<m):(mk m ts (bs m n) (i:Int)=[])↔hold m ts n i=false:=by
 rw [mk,List.filter_eq_nil_iff,hold,List.any_eq_false];constructor
 ·intro hh q hq;have hq':(q:Int)<m:=by have:=List.mem_range.mp hq;lia
  have:=fun hb=>hh (q:Int) (qrO.mpr ⟨⟨by lia,hq'⟩,hb⟩)
  simp only [List.any_eq_true,beq_iff_eq,exists_eq_right,qeY]at this;intro hz;simp only [Bool.and_eq_true]at hz;refine this (by simpa using hz.1) ⟨⟨by lia,hq'⟩,?_⟩;have z:=hz.2;rw [qcC h]at z;simp only [Bool.or_eq_true,beq_iff_eq]at z;rcases z with z|z
  ·left;lia
  ·right;rw [qcz];exact z
 ·intro hh x hx;obtain⟨⟨x0,xm⟩,xb⟩:=qrO.mp hx;simp only [List.any_eq_true,beq_iff_eq,exists_eq_right,qeY];rintro⟨_,hz⟩;refine hh x.toNat (List.mem_range.mpr (by lia)) ?_;simp only [Bool.and_eq_true];refine⟨xb,?_⟩;rw [qcC h];simp only [Bool.or_eq_true,beq_iff_eq];rcases hz with hz|hz
  ·left;lia
  ·right;rw [qcz,show ((x.toNat:Nat):Int)=x by lia];exact hz
theorem qps{m:Int}{ts:List (Int×Int)}(h:GW m ts)(n i:Nat)(hi:m.toNat≤i):hold m ts n i=false:=by
 rw [hold,List.any_eq_false];intro q hq;have hq':=List.mem_range.mp hq;simp only [Bool.and_eq_true,not_and];intro _;simp only [near,Bool.or_eq_true,beq_iff_eq,List.any_eq_true,Bool.and_eq_true,not_or,not_exists,not_and];refine⟨by lia,fun t ht=>?_⟩;have:=h.ok t ht;constructor<;>intro _<;>lia
noncomputable def hz(m:Int)(ts:List (Int×Int))(s:List Int):Bool:=(rng m).all fun a=>!(mk m ts s a).isEmpty
noncomputable def hl(m:Int)(ts:List (Int×Int)):List (List Int):=(qaO (subs m.toNat)).filter (hz m ts)
theorem qmp{m:Int}{ts:List (Int×Int)}(h:GW m ts){n H:Nat}(hH:∀i,H.testBit i=hold m ts n i):decide (((H:Nat):Int)=((2^m.toNat:Nat):Int)-1)=hz m ts (bs m n):=by
 have h1:=h.lo;have hp:0<2^m.toNat:=Nat.two_pow_pos _;have e1:(((H:Nat):Int)=((2^m.toNat:Nat):Int)-1)↔H=2^m.toNat-1:=by lia
 rw [decide_eq_decide.mpr e1,Bool.eq_iff_iff,decide_eq_true_eq,hz,List.all_eq_true];constructor
 ·intro e a ha;obtain⟨a0,am⟩:=qej.mp ha;have:=hH a.toNat;rw [e,Nat.testBit_two_pow_sub_one,decide_eq_true (by lia)]at this;have z:=qlo h n a.toNat (by lia);rw [←this,show ((a.toNat:Nat):Int)=a by lia]at z;cases q:mk m ts (bs m n) a with
  |nil=>exact absurd (z.mp q) (by simp)
  |cons _ _=>rfl
 ·intro e;refine Nat.eq_of_testBit_eq fun i=>?_
  rw [hH,Nat.testBit_two_pow_sub_one];by_cases hi:i<m.toNat
  ·rw [decide_eq_true hi];have:=e (i:Int) (qej.mpr ⟨by lia,by lia⟩);cases q:hold m ts n i with
   |true=>rfl
   |false=>
    rw [(qlo h n i (by lia)).mpr q]at this;cases this
  ·rw [decide_eq_false hi];exact qps h n i (by lia)
structure Sp(p:Pr):Prop where
 spare:p.fns "spare" = some qdb
 spare_by:p.fns "spare_by" = some qbQ
noncomputable def ow(m:Int)(ts:List (Int×Int))(s:List Int)(x:Int):List Int:=(rng m).filter fun a=>decide (mk m ts s a=[x])
noncomputable def sp(m:Int)(ts:List (Int×Int))(s:List Int):List Int:=s.filter fun x=>decide (ow m ts s x=[])
theorem qkH(l:List Int)(f:Int→List Int)(z:List Int):qi .notin (tu z) (.lst (l.map fun a=>tu (f a)))=.ok (decide (l.filter (fun a=>decide (f a=z))=[])):=by
 have h:(l.map fun a=>tu (f a)).all D.asks=true:=by
  simp only [List.all_eq_true,List.mem_map];rintro x ⟨a,_,rfl⟩;exact qbL _
 simp only [qi,seq?,qbL,h,Bool.and_self,if_true]
 congr 1
 rw [inD,List.any_map];have e:∀a,((fun y=>y.eqv (tu z))∘fun a=>tu (f a)) a=decide (f a=z):=fun a=>by
  show D.eqv (.tup ((f a).map D.int)) (.tup (z.map D.int))=_;rw [D.eqv,qdk]
 rw [show (l.any ((fun y=>y.eqv (tu z))∘fun a=>tu (f a)))=l.any fun a=>decide (f a=z)from by congr 1;funext a;exact e a]
 induction l with
 |nil=>rfl
 |cons a r ih=>
  by_cases q:f a=z
  ·simp [List.filter_cons,q]
  ·simp only [List.any_cons,List.filter_cons,q,decide_false,Bool.false_or,Bool.false_eq_true,if_false];refine ih ?_;simp only [List.all_eq_true,List.mem_map];rintro x ⟨a,_,rfl⟩;exact qbL _
theorem qkq(ns:List Int)(a:Int):qi .notin (.int a) (.tup (ns.map D.int))=.ok (!ns.any fun t=>t==a):=by
 have h:=qiG ns a;simp only [qi,seq?]at h ⊢;split at h
 ·rename_i q
  rw [if_pos q];injection h with h
  rw [h]
 ·cases h
section
variable{p:Pr}(B:Web p)(O:Nbr p)(S:qbT p)
include B O S
theorem spare(P:Sp p){k:Nat}{m:Int}{ts:List (Int×Int)}(h:GW m ts){s:List Int}(g:GS m s):qc p (k+6) "spare" [wb m ts,tu s]=.ok (tu (sp m ts s)):=by
 have e1:=marks_of O (k:=k+3) (rng m) (hd m ts) s g.len (by rw [zS];have:=h.hi;lia);have z1:=need_web B (k:=k+1) h;have z2:qc p (k+5) "need_some" [wb m ts,tu s]=.ok .non:=need_some B S (k:=k) (t:=.tup (ts.map prD)) g;have z3:=hoods B O (k:=k) h;have hl:=g.len;have e2:qc p (k+5) "spare_by" [.lst ((rng m).map fun a=>tu (s.filter fun x=>(hd m ts a).any fun t=>t==x)),tu s]=.ok (tu (sp m ts s)):=by
  rw [qZ P.spare_by];refine zw (τ:=[some (.lst ((rng m).map fun a=>tu (s.filter fun x=>(hd m ts a).any fun t=>t==x))),some (tu s)]) rfl rfl ?_;have hc:evE ⟨qc p (k+4),p.glb,p.sub,p.cat⟩ (.comp (.seq (.var 1)) [none,none,some 0] (.nm 1) (.cmp .notin (.tup (.cons (.var 1) .nil)) (.var 2)) (.var 1)) [some (.lst ((rng m).map fun a=>tu (s.filter fun x=>(hd m ts a).any fun t=>t==x))),some (tu s)]=.ok (.lst ((sp m ts s).map D.int)):=by
   refine qdu (f:=D.int) (c:=[some (.lst ((rng m).map fun a=>tu (s.filter fun x=>(hd m ts a).any fun t=>t==x)))]) (fun x=>decide (ow m ts s x=[])) D.int (qeh rfl) (by simp [SZ];lia) rfl fun x hx=>⟨?_,fun _=>rfl⟩
   have q:=qkH (rng m) (mk m ts s) [x];exact q
  show qq _ (.cons (.ret (.bi .tuple (.cons _ .nil))) .nil) _=_;rw [qq,zU,qr,zx,hc];simp only [R.bind_ok,zx]
  rfl
 generalize hW:wb m ts=WB at *;generalize D.lst ((rng m).map fun a=>tu (s.filter fun x=>(hd m ts a).any fun t=>t==x))=MK at *;generalize (D.tup ((rng m).map fun a=>tu (hd m ts a)))=HD at *;generalize tu s=TS at *;rw [qZ P.spare];refine zw rfl rfl ?_;simp [KG.Z,qdb,z1,z2,z3,e1,e2]
end
noncomputable def lsm(L:List (List Int)):Int:=match L.map (fun s=>(s.length:Int))with
 | []=>0
 |x::r=>qkb false x r
noncomputable def few(L:List (List Int)):List (List Int):=L.filter fun s=>decide ((s.length:Int)=lsm L)
section
variable{w:W}{τ:Env}{L:List (List Int)}
end
theorem qtH{m:Int}{ts:List (Int×Int)}{s:List Int}:hz m ts s=decide (un m ts s=[]):=by
 rw [Bool.eq_iff_iff,decide_eq_true_eq,un,List.filter_eq_nil_iff,hz,List.all_eq_true];refine forall_congr' fun a=>forall_congr' fun _=>?_
 cases mk m ts s a<;>simp
section
variable{p:Pr}(B:Web p)
include B
end
end KG
namespace K24
open PySem PySem.Spec PyProof.Rows L2 EV
noncomputable def top(i:Nat):Stmt:=PySem.Challenge.pw_holdplaces_k24_two_parts_that_hold_all.main.body.getD i (.Pass ⟨0,0,0,0⟩)
abbrev qbZ:Fn:=KG.qbZ
abbrev qaJ:Fn:=KG.qaJ
abbrev qbI:Fn:=KG.qbI
abbrev qdc:Fn:=KG.qdc
abbrev qcp:Fn:=KG.qcp
abbrev qct:Fn:=KG.qct
abbrev qbg:Fn:=KG.qbg
abbrev qaP:Fn:=KG.qaP
abbrev qce:Fn:=KG.qce
abbrev qbe:Fn:=KG.qbe
abbrev qaN:Fn:=KG.qaN
abbrev qbb:Fn:=KG.qbb
abbrev qaT:Fn:=KG.qaT
noncomputable def qaD:Fn:=⟨2,3,false,(.cons (.set (.nm 2) (.call "unheld" (.cons (.var 0) (.cons (.var 1) .nil)))) (.cons (.ite (.val (.var 2)) (.cons .unk .nil) .nil) .nil))⟩
abbrev qco:Fn:=KG.qco
abbrev qdb:Fn:=KG.qdb
abbrev qbK:Fn:=KG.qbK
abbrev qbn:Fn:=KG.qbn
abbrev zN:Fn:=KG.zN
abbrev qbQ:Fn:=KG.qbQ
noncomputable def qeC:Fn:=⟨2,4,false,(.cons (.exp (.call "need_web" (.cons (.var 0) .nil))) (.cons (.exp (.call "need_some" (.cons (.var 0) (.cons (.var 1) .nil)))) (.cons (.exp (.call "need_all" (.cons (.var 0) (.cons (.var 1) .nil)))) (.cons (.set (.nm 2) (.var 1)) (.cons (.set (.nm 3) (.call "spare" (.cons (.var 0) (.cons (.var 2) .nil)))) (.cons (.while (.val (.var 3)) (.cons (.set (.nm 2) (.call "without" (.cons (.var 2) (.cons (.ix (.var 3) (.neg (.con (.int 1)))) .nil)))) (.cons (.set (.nm 3) (.call "spare" (.cons (.var 0) (.cons (.var 2) .nil)))) .nil))) (.cons (.ret (.var 2)) .nil)))))))⟩
noncomputable def qdG:Fn:=⟨2,2,false,(.cons (.ret (.bi .tuple (.cons (.comp (.seq (.var 0)) [none,none,some 1] (.nm 1) (.cmp .ne (.var 1) (.var 2)) (.var 1)) .nil))) .nil)⟩
noncomputable def qbF:Fn:=⟨1,3,false,(.cons (.exp (.call "need_web" (.cons (.var 0) .nil))) (.cons (.ite (.val (.bi .any (.cons (.comp (.seq (.call "hoods" (.cons (.var 0) .nil))) [none,none] (.nm 1) .yes (.cmp .eq (.bi .len (.cons (.var 1) .nil)) (.con (.int 1)))) .nil))) (.cons (.ret (.con .non)) .nil) .nil) (.cons (.set (.nm 1) (.rtup (.rng (.ix (.var 0) (.con (.int 0)))))) (.cons (.set (.nm 2) (.call "leaned" (.cons (.var 0) (.cons (.var 1) .nil)))) (.cons (.ret (.tup (.cons (.var 2) (.cons (.bi .tuple (.cons (.comp (.seq (.var 1)) [none,none,some 2] (.nm 1) (.cmp .notin (.var 1) (.var 2)) (.var 1)) .nil)) .nil)))) .nil)))))⟩
abbrev zF:Fn:=KG.zF
abbrev zR:Fn:=KG.zR
abbrev qbf:Fn:=KG.qbf
abbrev qaL:Fn:=KG.qaL
abbrev qal:Fn:=KG.qal
abbrev qaV:Fn:=KG.qaV
noncomputable def qex:Fn:=⟨1,5,false,(.cons (.set (.nm 1) (.op .sub (.op .shl (.con (.int 1)) (.bi .len (.cons (.var 0) .nil))) (.con (.int 1)))) (.cons (.set (.nm 2) (.var 1)) (.cons (.for (.nm 3) (.rng (.bi .len (.cons (.var 0) .nil))) (.cons (.set (.nm 4) (.comp (.rng (.bi .len (.cons (.var 0) .nil))) [none,none,some 2] (.nm 1) (.cmp .eq (.op .band (.op .shr (.var 2) (.var 1)) (.con (.int 1))) (.con (.int 1))) (.var 1))) (.cons (.set (.nm 4) (.comp (.seq (.var 4)) [none,none,some 1,some 2,some 0] (.nm 1) (.cmp .eq (.call "_law_held" (.cons (.var 4) (.cons (.op .bxor (.var 3) (.op .shl (.con (.int 1)) (.var 1))) .nil))) (.var 2)) (.var 1))) (.cons (.ite (.cmp .ne (.var 4) (.lst .nil)) (.cons (.set (.nm 2) (.op .bxor (.var 2) (.op .shl (.con (.int 1)) (.ix (.var 4) (.neg (.con (.int 1))))))) .nil) .nil) .nil)))) (.cons (.ret (.var 2)) .nil))))⟩
noncomputable def qea:Fn:=⟨1,6,false,(.cons (.set (.nm 1) (.ix (.var 0) (.con (.int 0)))) (.cons (.set (.nm 2) (.call "_law_masks" (.cons (.var 0) .nil))) (.cons (.set (.nm 3) (.call "two_parts" (.cons (.var 0) .nil))) (.cons (.ite (.cmp .ne (.comp (.rng (.var 1)) [none,none,some 2] (.nm 1) (.cmp .eq (.ix (.var 2) (.var 1)) (.op .shl (.con (.int 1)) (.var 1))) (.var 1)) (.lst .nil)) (.cons (.ret (.cmp .is (.var 3) (.con .non))) .nil) .nil) (.cons (.set (.nm 4) (.call "_law_lean" (.cons (.var 2) .nil))) (.cons (.set (.nm 5) (.op .bxor (.op .sub (.op .shl (.con (.int 1)) (.var 1)) (.con (.int 1))) (.var 4))) (.cons (.ite (.or (.not (.val (.isi (.var 3) (.ty "tuple")))) (.cmp .ne (.var 3) (.tup (.cons (.call "_law_some" (.cons (.var 1) (.cons (.var 4) .nil))) (.cons (.call "_law_some" (.cons (.var 1) (.cons (.var 5) .nil))) .nil))))) (.cons (.ret (.con (.bl false))) .nil) .nil) (.cons (.ret (.and (.cmp2 .eq .eq (.call "_law_held" (.cons (.var 2) (.cons (.var 4) .nil))) (.call "_law_held" (.cons (.var 2) (.cons (.var 5) .nil))) (.op .sub (.op .shl (.con (.int 1)) (.var 1)) (.con (.int 1)))) (.cmp .eq (.call "two_parts" (.cons (.var 0) .nil)) (.var 3)))) .nil))))))))⟩
noncomputable def qfx:Fn:=⟨1,4,false,(.cons (.ite (.or (.not (.val (.call "_law_right" (.cons (.tup (.cons (.con (.int 1)) (.cons (.tup .nil) .nil))) .nil)))) (.or (.not (.val (.call "_law_right" (.cons (.tup (.cons (.con (.int 2)) (.cons (.tup (.cons (.tup (.cons (.con (.int 0)) (.cons (.con (.int 1)) .nil))) .nil)) .nil))) .nil)))) (.not (.val (.call "_law_right" (.cons (.tup (.cons (.con (.int 3)) (.cons (.tup (.cons (.tup (.cons (.con (.int 0)) (.cons (.con (.int 1)) .nil))) .nil)) .nil))) .nil)))))) (.cons (.ret (.con (.bl false))) .nil) .nil) (.cons (.for (.nm 1) (.seq (.op .add (.lst (.cons (.call "_law_cell_at" (.cons (.var 0) (.cons (.con (.int 0)) .nil))) .nil)) (.sl (.var 0) (.some (.con (.int 1))) (.some (.con (.int 4)))))) (.cons (.set (.nm 2) (.call "_law_web" (.cons (.var 1) (.cons (.con (.int 8)) .nil)))) (.cons (.ite (.cmp .eq (.op .mod (.call "_law_stir" (.cons (.var 1) (.cons (.con (.int 5)) .nil))) (.con (.int 2))) (.con (.int 1))) (.cons (.set (.nm 3) (.op .add (.ix (.var 2) (.con (.int 1))) (.bi .tuple (.cons (.comp (.rng (.op .sub (.ix (.var 2) (.con (.int 0))) (.con (.int 1)))) [none,none] (.nm 1) .yes (.tup (.cons (.var 1) (.cons (.op .add (.var 1) (.con (.int 1))) .nil)))) .nil)))) (.cons (.set (.nm 2) (.tup (.cons (.ix (.var 2) (.con (.int 0))) (.cons (.bi .tuple (.cons (.sset false (.var 3)) .nil)) .nil)))) .nil)) .nil) (.cons (.ite (.not (.val (.call "_law_right" (.cons (.var 2) .nil)))) (.cons (.ret (.con (.bl false))) .nil) .nil) .nil)))) (.cons (.ret (.con (.bl true))) .nil)))⟩
abbrev qkg:Ent:=⟨"is_whole",top 6,[],false,qbZ⟩
abbrev qhQ:Ent:=⟨"is_between",top 7,[],false,qaJ⟩
abbrev qlu:Ent:=⟨"is_pair",top 8,[],false,qbI⟩
abbrev qoC:Ent:=⟨"rises",top 9,[],false,qdc⟩
abbrev qno:Ent:=⟨"is_web",top 12,[],false,qcp⟩
abbrev qnu:Ent:=⟨"is_tie",top 13,[],false,qct⟩
abbrev qkd:Ent:=⟨"need_web",top 14,[],false,qbg⟩
abbrev qke:Ent:=⟨"is_place",top 15,[],false,qaP⟩
abbrev qoU:Ent:=⟨"hoods",top 16,[],false,qce⟩
abbrev qlO:Ent:=⟨"hood_of",top 17,[],false,qbe⟩
abbrev qkl:Ent:=⟨"are_tied",top 18,[],false,qaN⟩
abbrev qlS:Ent:=⟨"is_some",top 20,[],false,qbb⟩
abbrev qii:Ent:=⟨"need_some",top 21,[],false,qaT⟩
abbrev qjV:Ent:=⟨"need_all",top 22,[],false,qaD⟩
abbrev qnN:Ent:=⟨"unheld",top 23,[],false,qco⟩
abbrev qpG:Ent:=⟨"spare",top 24,[],false,qdb⟩
abbrev qkX:Ent:=⟨"mark_of",top 25,[],false,qbK⟩
abbrev qkr:Ent:=⟨"marks_of",top 26,[],false,qbn⟩
abbrev qfq:Ent:=⟨"places_marked",top 27,[],false,zN⟩
abbrev qkx:Ent:=⟨"spare_by",top 28,[],false,qbQ⟩
abbrev qnL:Ent:=⟨"leaned",top 30,[],false,qeC⟩
abbrev qlr:Ent:=⟨"without",top 31,[],false,qdG⟩
abbrev qiv:Ent:=⟨"two_parts",top 33,[],false,qbF⟩
abbrev qfD:Ent:=⟨"_law_cell_at",top 35,[],false,zF⟩
abbrev qir:Ent:=⟨"_law_stir",top 36,[],false,zR⟩
abbrev qjP:Ent:=⟨"_law_web",top 37,[Str.ofString "_law_ties"],false,qbf⟩
abbrev qhw:Ent:=⟨"_law_masks",top 38,[Str.ofString "_law_found"],false,qaL⟩
abbrev qis:Ent:=⟨"_law_some",top 39,[],false,qal⟩
abbrev qid:Ent:=⟨"_law_held",top 40,[],false,qaV⟩
abbrev qio:Ent:=⟨"_law_lean",top 41,[],false,qex⟩
abbrev qhc:Ent:=⟨"_law_right",top 42,[],false,qea⟩
abbrev qen:Ent:=⟨"law",top 43,[],false,qfx⟩
abbrev tab:List Ent:=[qkg,qhQ,qlu,qoC,qno,qnu,qkd,qke,qoU,qlO,qkl,qlS,qii,qjV,qnN,qpG,qkX,qkr,qfq,qkx,qnL,qlr,qiv,qfD,qir,qjP,qhw,qis,qid,qio,qhc,qen]
abbrev oth:List (Str×GK):=[(Str.ofString "NoWeb",GK.exc),(Str.ofString "NoPlaces",GK.exc),(Str.ofString "NotAll",GK.exk),(Str.ofString "MOST",GK.val),(Str.ofString "len",GK.bi .len),(Str.ofString "tuple",GK.ty "tuple" (some .tuple)),(Str.ofString "int",GK.ty "int" (some .int)),(Str.ofString "bool",GK.ty "bool" (some .bool)),(Str.ofString "set",GK.set),(Str.ofString "sorted",GK.bi .sorted),(Str.ofString "all",GK.bi .all),(Str.ofString "any",GK.bi .any),(Str.ofString "min",GK.bi .min),(Str.ofString "max",GK.bi .max),(Str.ofString "range",GK.rng),(Str.ofString "enumerate",GK.enum),(Str.ofString "isinstance",GK.isi)]
abbrev vals:List (Str×D):=[(Str.ofString "MOST",(.int 8))]
abbrev G:List (Str×GK):=tab.map (fun e=>(e.x,GK.fn e.fr))++oth
abbrev qbp:List (Str×Str):=[]
abbrev us:List Ent:=[]
abbrev subs:List ((Str×Cl)×Bool):=[]
abbrev p:Pr:=prT tab vals qbp subs
theorem qhD:p.fns "_law_lean" = some qex:=by kernel_rfl
theorem qgN:p.fns "_law_right" = some qea:=by kernel_rfl
theorem qrW:p.fns "law" = some qfx:=by kernel_rfl
end K24
namespace KG
open EV
open PySem (Str)
open L2 (atI ixN ltP)
section
variable(m:Int)(ts:List (Int×Int))
noncomputable def grow:Nat→List Int→List Int
 | 0,s=>s
 |n+1,s=>match un m ts s with
  | []=>s
  |a::_=>grow n (sortI (s++[a]))
noncomputable def fr(h:List Int)(a:Int):Bool:=decide (((hd m ts a).filter fun x=>h.any fun t=>t==x)=[])
end
section
variable{m:Int}{ts:List (Int×Int)}
theorem qmd{h:List Int}{a:Int}:fr m ts h a=true↔∀x∈h,x∉hd m ts a:=by
 rw [fr,decide_eq_true_eq,List.filter_eq_nil_iff];constructor
 ·intro q x hx hd;exact q x hd (by simp [hx])
 ·intro q x hx z;simp only [List.any_eq_true,beq_iff_eq]at z;obtain⟨y,hy,rfl⟩:=z;exact q y hy hx
theorem qta{h:List Int}{a:Int}:(mk m ts h a=[])↔fr m ts h a=true:=by
 rw [qmd,mk,List.filter_eq_nil_iff];constructor
 ·intro q x hx hd;exact q x hx (by simp [hd])
 ·intro q x hx z;simp only [List.any_eq_true,beq_iff_eq]at z;obtain⟨y,hy,rfl⟩:=z;exact q _ hx hy
theorem qcU{a:Int}(ha:0≤a∧a<m):a∈hd m ts a:=by
 rw [hd,List.mem_filter,qej];exact⟨ha,by simp⟩
theorem qsJ(h:List Int):un m ts h=(rng m).filter fun a=>fr m ts h a:=by
 rw [un];refine List.filter_congr fun a _=>?_
 rw [Bool.eq_iff_iff,decide_eq_true_eq];exact qta
end
noncomputable def both(s:List Int)(t:Int×Int):Bool:=(s.any fun x=>x==t.1)&&(s.any fun x=>x==t.2)
theorem qss{α:Type}(l:List α)(f:α→Bool):b1 .any [.lst (l.map fun a=>D.bl (f a))]=.ok (.bl (l.any f)):=by
 rw [b1,b11];simp only [qcl];rw [qkQ];simp only [qaq];rw [List.any_map];rfl
noncomputable def ls(L:List (List Int)):Int:=match L.map (fun s=>(s.length:Int))with
 | []=>0
 |x::r=>qkb true x r
section
variable{m:Int}{ts:List (Int×Int)}
theorem qfO{s:List Int}{x:Int}:(s.any fun t=>t==x)=true↔x∈s:=by
 simp only [List.any_eq_true,beq_iff_eq,exists_eq_right]
theorem qix(h:GW m ts){t:Int×Int}(ht:t∈ts):qax ts t.1 t.2=true∧qax ts t.2 t.1=true:=by
 have e:qax ts t.1 t.2=true:=by
  rw [qax,List.any_eq_true];refine⟨t,ht,?_⟩;rw [qcE _ _ _ (h.ok t ht).2.1];simp
 exact⟨e,by rw [qcz];exact e⟩
theorem qpj(h:GW m ts){a b:Int}(e:qax ts a b=true):∃t∈ts,(t.1=a∧t.2=b)∨(t.1=b∧t.2=a):=by
 rw [qax,List.any_eq_true]at e;obtain⟨t,ht,e⟩:=e;rw [qcE _ _ _ (h.ok t ht).2.1]at e;simp only [Bool.or_eq_true,Bool.and_eq_true,beq_iff_eq]at e;exact⟨t,ht,e⟩
end
noncomputable def qeC:Fn:=⟨2,4,false,(.cons (.exp (.call "need_web" (.cons (.var 0) .nil))) (.cons (.exp (.call "need_some" (.cons (.var 0) (.cons (.var 1) .nil)))) (.cons (.exp (.call "need_all" (.cons (.var 0) (.cons (.var 1) .nil)))) (.cons (.set (.nm 2) (.var 1)) (.cons (.set (.nm 3) (.call "spare" (.cons (.var 0) (.cons (.var 2) .nil)))) (.cons (.while (.val (.var 3)) (.cons (.set (.nm 2) (.call "without" (.cons (.var 2) (.cons (.ix (.var 3) (.neg (.con (.int 1)))) .nil)))) (.cons (.set (.nm 3) (.call "spare" (.cons (.var 0) (.cons (.var 2) .nil)))) .nil))) (.cons (.ret (.var 2)) .nil)))))))⟩
noncomputable def qdG:Fn:=⟨2,2,false,(.cons (.ret (.bi .tuple (.cons (.comp (.seq (.var 0)) [none,none,some 1] (.nm 1) (.cmp .ne (.var 1) (.var 2)) (.var 1)) .nil))) .nil)⟩
noncomputable def qaD:Fn:=⟨2,3,false,(.cons (.set (.nm 2) (.call "unheld" (.cons (.var 0) (.cons (.var 1) .nil)))) (.cons (.ite (.val (.var 2)) (.cons .unk .nil) .nil) .nil))⟩
structure Ld(p:Pr):Prop where
 leaned:p.fns "leaned" = some qeC
 without:p.fns "without" = some qdG
theorem qfS{m:Int}{ts:List (Int×Int)}{s:List Int}(g:GS m s){x:Int}(hx:x∈s):(un m ts (s.filter fun y=>!decide (y=x))=un m ts s)↔x∈sp m ts s:=by
 have mkl:∀a,mk m ts (s.filter fun y=>!decide (y=x)) a=(mk m ts s a).filter fun y=>!decide (y=x):=fun a=>by
  rw [mk,mk,List.filter_filter,List.filter_filter]
  congr 1
  funext y;rw [Bool.and_comm]
 have nd:∀a,(mk m ts s a).Pairwise (· < ·):=fun a=>g.lt.sublist List.filter_sublist
 rw [sp,List.mem_filter];constructor
 ·intro e;refine⟨hx,?_⟩;rw [decide_eq_true_eq];cases q:ow m ts s x with
  |nil=>rfl
  |cons a r=>
   have ha:a∈ow m ts s x:=by rw [q];exact List.mem_cons_self
   rw [ow,List.mem_filter,decide_eq_true_eq]at ha;have h1:a∈un m ts (s.filter fun y=>!decide (y=x)):=by
    rw [un,List.mem_filter,decide_eq_true_eq,mkl,ha.2];exact⟨ha.1,by simp⟩
   rw [e,un,List.mem_filter,decide_eq_true_eq,ha.2]at h1;cases h1.2
 ·rintro⟨_,e⟩;rw [decide_eq_true_eq]at e;rw [un,un];refine List.filter_congr fun a ha=>?_
  rw [mkl];refine decide_eq_decide.mpr ⟨fun z=>?_,fun z=>by rw [z];rfl⟩;have all:∀y∈mk m ts s a,y=x:=fun y hy=>by
   have:=List.filter_eq_nil_iff.mp z y hy
   simpa using this
  match q:mk m ts s a with
  | []=>rfl
  | [y]=>
   have:y=x:=all y (by rw [q];exact List.mem_cons_self);subst this;have:a∈ow m ts s y:=by rw [ow,List.mem_filter,decide_eq_true_eq];exact⟨ha,q⟩
   rw [e]at this;cases this
  |y::y'::r=>
   have n:=nd a;rw [q]at n;have h1:=all y (by rw [q];exact List.mem_cons_self);have h2:=all y' (by rw [q];exact List.mem_cons_of_mem _ List.mem_cons_self);have:=(List.pairwise_cons.mp n).1 y' List.mem_cons_self;lia
theorem GS.less{m:Int}{s:List Int}(g:GS m s)(c:Int→Bool):GS m (s.filter c):=
 ⟨g.lt.sublist List.filter_sublist,fun i hi=>g.ok i (List.mem_filter.mp hi).1,Nat.le_trans (List.length_filter_le _ _) g.len⟩
noncomputable def lw(m:Int)(ts:List (Int×Int)):Nat→List Int→List Int
 | 0,s=>s
 |n+1,s=>match sp m ts s with
  | []=>s
  |a::r=>lw m ts n (s.filter fun y=>!decide (y=(a::r).getLast (by simp)))
section
variable{m:Int}{ts:List (Int×Int)}
theorem qee{s:List Int}(q:sp m ts s=[]):∀n,lw m ts n s=s
 | 0=>rfl
 |n+1=>by rw [lw,q]
theorem qlH{s:List Int}{x:Int}(h:x∈sp m ts s):x∈s:=by rw [sp,List.mem_filter]at h;exact h.1
theorem qnJ{s:List Int}{x:Int}(hx:x∈s):(s.filter fun y=>!decide (y=x)).length<s.length:=List.length_filter_lt_length_iff_exists.mpr ⟨x,hx,by simp⟩
theorem qgV:∀(n:Nat) (s:List Int),GS m s→un m ts s=[]→s.length≤n→GS m (lw m ts n s)∧un m ts (lw m ts n s)=[]∧sp m ts (lw m ts n s)=[]∧∀x∈lw m ts n s,x∈s
 | 0,s,g,hu,hn=>by
  have:s=[]:=List.length_eq_zero_iff.mp (by lia);subst this;exact⟨g,hu,rfl,fun _ z=>z⟩
 |n+1,s,g,hu,hn=>by
  rw [lw];split
  ·rename_i q;exact⟨g,hu,q,fun _ z=>z⟩
  ·rename_i a r q
   have hl:(a::r).getLast (by simp)∈sp m ts s:=by rw [q];exact List.getLast_mem _
   have hs:=qlH hl;have e:=(qfS (ts:=ts) g hs).mpr hl;have:=qnJ hs;obtain⟨r1,r2,r3,r4⟩:=qgV n _ (GS.less g fun y=>!decide (y=(a::r).getLast (by simp))) (e.trans hu) (by lia);exact⟨r1,r2,r3,fun x hx=>(List.mem_filter.mp (r4 x hx)).1⟩
theorem qfu:un m ts (rng m)=[]:=by
 rw [un,List.filter_eq_nil_iff];intro a ha z;rw [decide_eq_true_eq,mk,List.filter_eq_nil_iff]at z;exact z a ha (qfO.mpr (qcU (qej.mp ha)))
theorem qsS{s:List Int}(hn:sp m ts s=[]){x:Int}(hx:x∈s):ow m ts s x≠[]:=fun z=>by
 rw [sp,List.filter_eq_nil_iff]at hn;exact hn x hx (by simpa using z)
end
theorem qiV{u:List Int}(hu:u≠[]):ixD (tu u) (.int (-1))=.ok (.int (u.getLast hu)):=by
 have hl:0<u.length:=List.length_pos_iff.mpr hu;have e:atI (u.map D.int) (-1)=some (.int (u.getLast hu)):=by
  have h2:ixN (u.map D.int).length (-1)=some (u.length-1):=by
   unfold ixN;rw [List.length_map,if_neg (by decide),if_pos (by lia)]
   congr 1;lia
  unfold atI;rw [h2];show (u.map D.int)[u.length-1]? = _;rw [List.getElem?_map,List.getLast_eq_getElem,List.getElem?_eq_getElem (by lia)]
  rfl
 simp only [ixD,tu];rw [e]
section
variable{p:Pr}(B:Web p)(O:Nbr p)(S:qbT p)
include B O S
theorem qmL(U:Un p)(hf:p.fns "need_all" = some qaD){k:Nat}{m:Int}{ts:List (Int×Int)}(h:GW m ts){s:List Int}(g:GS m s)(hu:un m ts s=[]):qc p (k+7) "need_all" [wb m ts,tu s]=.ok .non:=by
 have e:=unheld B S O U (k:=k) h g;rw [hu]at e;have e6:tu []=.tup []:=rfl;rw [e6]at e;rw [qZ hf];simp only [qat];generalize wb m ts=WB at *;generalize tu s=TS at *;simp [KG.Z,qaD,e]
theorem qkB(N:Ld p){k:Nat}{m:Int}{s:List Int}(g:GS m s)(x:Int):qc p (k+1) "without" [tu s,.int x]=.ok (tu (s.filter fun y=>!decide (y=x))):=by
 have hl:=g.len;rw [qZ N.without];refine zw (τ:=[some (tu s),some (.int x)]) rfl rfl ?_;have hc:evE ⟨qc p k,p.glb,p.sub,p.cat⟩ (.comp (.seq (.var 0)) [none,none,some 1] (.nm 1) (.cmp .ne (.var 1) (.var 2)) (.var 1)) [some (tu s),some (.int x)]=.ok (.lst ((s.filter fun y=>!decide (y=x)).map D.int)):=
  qdu (f:=D.int) (c:=[some (.int x)]) (fun y=>!decide (y=x)) D.int (qeh rfl) (by simp [SZ];lia) rfl fun y _=>⟨ne_int y x,fun _=>rfl⟩
 show qq _ (.cons (.ret (.bi .tuple (.cons _ .nil))) .nil) _=_;rw [qq,zU,qr,zx,hc];simp only [R.bind_ok,zx]
 rfl
end
theorem qiU{m:Int}{ts:List (Int×Int)}(x:Option D){test:Env→R Bool}{body:Env→EV.O}
  (ht:∀s u,test [some (wb m ts),x,some (tu s),some (tu u)]=.ok (!u.isEmpty))
  (hb:∀s a r,GS m s→sp m ts s=a::r→body [some (wb m ts),x,some (tu s),some (tu (a::r))]=.nx [some (wb m ts),x,some (tu (s.filter fun y=>!decide (y=(a::r).getLast (by simp)))),some (tu (sp m ts (s.filter fun y=>!decide (y=(a::r).getLast (by simp)))))]) :
  ∀(j n:Nat) (s:List Int),GS m s→j<n→sp m ts (lw m ts j s)=[]→qbq test body n [some (wb m ts),x,some (tu s),some (tu (sp m ts s))]=.nx [some (wb m ts),x,some (tu (lw m ts j s)),some (tu [])]
 |j,n+1,s,g,hj,hu=>by
  rw [qbq,ht];cases q:sp m ts s with
  |nil=>
   simp only [R.out_ok,List.isEmpty_nil,Bool.not_true,Bool.false_eq_true,if_false];rw [qee q]
  |cons a r=>
   match j,hj,hu with
   | 0,_,hu=>rw [lw,q]at hu;cases hu
   |j+1,hj,hu=>
    have eg:lw m ts (j+1) s=lw m ts j (s.filter fun y=>!decide (y=(a::r).getLast (by simp))):=by rw [lw,q]
    rw [eg]at hu ⊢;simp only [R.out_ok,List.isEmpty_cons,Bool.not_false,if_true];rw [hb s a r g q];exact qiU x ht hb j n _ (GS.less g _) (by lia) hu
theorem leaned{p:Pr}(B:Web p)(O:Nbr p)(S:qbT p)(U:Un p)(P:Sp p)(N:Ld p)(hA:p.fns "need_all" = some qaD){k:Nat}{m:Int}{ts:List (Int×Int)}(h:GW m ts){s:List Int}(g:GS m s)(hu:un m ts s=[]):qc p (k+8) "leaned" [wb m ts,tu s]=.ok (tu (lw m ts 8 s)):=by
 have z1:=need_web B (k:=k+3) h;have z2:qc p (k+7) "need_some" [wb m ts,tu s]=.ok .non:=need_some B S (k:=k+2) (t:=.tup (ts.map prD)) g;have z3:=qmL B O S U hA (k:=k) h g hu;have z4:∀s,GS m s→qc p (k+7) "spare" [wb m ts,tu s]=.ok (tu (sp m ts s)):=fun s g=>spare B O S P (k:=k+1) h g
 have i2:=(qgV (m:=m) (ts:=ts) 8 s g hu g.len).2.2.1;rw [qZ N.leaned];refine zw (τ:=[some (wb m ts),some (tu s),none,none]) rfl rfl ?_;show qq _ (.cons (.exp _) (.cons (.exp _) (.cons (.exp _) (.cons (.set (.nm 2) _) (.cons (.set (.nm 3) _) (.cons (.while _ _) (.cons (.ret (.var 2)) .nil))))))) _=_;have z5:=z4 s g;refine qbm (σ:=[some (wb m ts),some (tu s),none,none]) (by
  generalize wb m ts=WB at *;simp [KG.Z,z1]) ?_
 refine qbm (σ:=[some (wb m ts),some (tu s),none,none]) (by
  generalize wb m ts=WB at *;generalize tu s=TS at *;simp [KG.Z,z2]) ?_
 refine qbm (σ:=[some (wb m ts),some (tu s),none,none]) (by
  generalize wb m ts=WB at *;generalize tu s=TS at *;simp [KG.Z,z3]) ?_
 refine qbm (σ:=[some (wb m ts),some (tu s),some (tu s),none]) (by
  generalize wb m ts=WB at *;generalize tu s=TS at *;simp [KG.Z]) ?_
 refine qbm (σ:=[some (wb m ts),some (tu s),some (tu s),some (tu (sp m ts s))]) (by
  generalize wb m ts=WB at *;generalize tu (sp m ts s)=TU at *;generalize tu s=TS at *;simp [KG.Z,z5]) ?_
 refine qbm (σ:=[some (wb m ts),some (tu s),some (tu (lw m ts 8 s)),some (tu [])]) ?_ ?_
 ·rw [qav];have:=qiU (m:=m) (ts:=ts) (some (tu s)) (test:=fun σ=>evT ⟨qc p (k+7),p.glb,p.sub,p.cat⟩ (.val (.var 3)) σ) (body:=fun σ=>qq ⟨qc p (k+7),p.glb,p.sub,p.cat⟩ (.cons (.set (.nm 2) (.call "without" (.cons (.var 2) (.cons (.ix (.var 3) (.neg (.con (.int 1)))) .nil)))) (.cons (.set (.nm 3) (.call "spare" (.cons (.var 0) (.cons (.var 2) .nil)))) .nil)) σ) (fun s u=>by
    show truth (tu u)=_;rw [tu,truth];cases u<;>rfl) (fun s a r g q=>by
    have e1:=qiV (u:=a::r) (by simp);have e2:=qkB B O S N (k:=k+6) g ((a::r).getLast (by simp));have e3:=z4 _ (GS.less g fun y=>!decide (y=(a::r).getLast (by simp)));generalize (a::r).getLast _=la at *;generalize tu (sp m ts (s.filter fun y=>!decide (y=la)))=TU at *;generalize tu (s.filter fun y=>!decide (y=la))=T1 at *;generalize wb m ts=WB at *;generalize tu (a::r)=TR at *;generalize tu s=TS at *;simp [KG.Z,ze,e1,e2,e3]) 8 qeZ s g (by decide) i2
  rw [this];rfl
 ·simp [KG.Z]
section
variable{m:Int}{ts:List (Int×Int)}
noncomputable def ap(m:Int)(ts:List (Int×Int))(s:List Int):Bool:=(rng m).all fun a=>decide ((mk m ts s a).length≤1)
theorem qnp{s:List Int}:un m ts s=[]↔∀a,0≤a→a<m→∃x∈s,x∈hd m ts a:=by
 rw [qsJ,List.filter_eq_nil_iff];constructor
 ·intro h a h0 h1;have:=h a (qej.mpr ⟨h0,h1⟩);rw [qmd]at this;exact Classical.byContradiction fun z=>this fun x hx hd=>z ⟨x,hx,hd⟩
 ·intro h a ha z;obtain⟨x,hx,hd⟩:=h a (qej.mp ha).1 (qej.mp ha).2;exact qmd.mp z x hx hd
theorem mem_mk{s:List Int}{a x:Int}:x∈mk m ts s a↔x∈s∧x∈hd m ts a:=by rw [mk,List.mem_filter,qfO]
theorem qiD:∀{l:List Int},l.Pairwise (· < ·)→(l.length≤1↔∀x∈l,∀y∈l,x=y)
 | [],_=>by simp
 | [a],_=>by simp
 |a::b::r,h=>by
  constructor
  ·intro z;simp at z
  ·intro z;have e:=z a (by simp) b (by simp);have:=(List.pairwise_cons.mp h).1 b (by simp);lia
theorem qqH{a x:Int}(ha:0≤a∧a<m)(h:x∈hd m ts a):a∈hd m ts x:=by
 rw [qeY]at h ⊢;exact⟨ha,h.2.imp Eq.symm fun e=>by rw [qcz];exact e⟩
noncomputable def al(m:Int)(ts:List (Int×Int)):List (List Int):=(qaO (subs m.toNat)).filter (ap m ts)
noncomputable def ma(m:Int)(ts:List (Int×Int)):Int:=ls (al m ts)
theorem qnA(h:GW m ts){a b:Int}:qax ts a b=true↔(a,b)∈ts∨(b,a)∈ts:=by
 constructor
 ·intro e;obtain⟨t,ht,e⟩:=qpj h e;rcases e with ⟨rfl,rfl⟩|⟨rfl,rfl⟩
  ·exact .inl ht
  ·exact .inr ht
 ·rintro(e|e)
  ·exact(qix h e).1
  ·exact(qix h e).2
theorem qll(h:GW m ts){a x:Int}:x∈hd m ts a↔(0≤x∧x<m)∧(x=a∨(a,x)∈ts∨(x,a)∈ts):=by
 rw [qeY,qnA h]
end
noncomputable def outer(n:Int):List Int:=(rng n).map (n + ·)
section
variable{n:Int}{ts tc:List (Int×Int)}(h:GW n ts)(hn:n≤4)(h':GW (2 * n) tc)(hm:∀t:Int×Int,t∈tc↔t∈ts∨(0≤t.1∧t.1<n∧t.2=n+t.1))
include h hn h' hm
end
noncomputable def join(n:Int)(s t:List Int):List Int:=s++t.map (n + ·)
section
variable{n k:Int}{ts us tb:List (Int×Int)}(h:GW n ts)(g:GW k us)(hb:GW (n+k) tb)(hm:∀t:Int×Int,t∈tb↔t∈ts∨(t.1-n,t.2-n)∈us)
include h g hb hm
end
noncomputable def qlX:Fn:=⟨1,3,false,(.cons (.exp (.call "need_web" (.cons (.var 0) .nil))) (.cons (.set (.tp [1,2]) (.var 0)) (.cons (.exp (.call "need_room" (.cons (.op .mul (.con (.int 2)) (.var 1)) .nil))) (.cons (.ret (.call "web_of" (.cons (.op .mul (.con (.int 2)) (.var 1)) (.cons (.op .add (.bi .list (.cons (.var 2) .nil)) (.comp (.rng (.var 1)) [none,none,some 1] (.nm 1) .yes (.tup (.cons (.var 1) (.cons (.op .add (.var 2) (.var 1)) .nil))))) .nil)))) .nil))))⟩
noncomputable def qnz:Fn:=⟨2,4,false,(.cons (.exp (.call "need_web" (.cons (.var 0) .nil))) (.cons (.exp (.call "need_web" (.cons (.var 1) .nil))) (.cons (.set (.nm 2) (.ix (.var 0) (.con (.int 0)))) (.cons (.set (.nm 3) (.op .add (.var 2) (.ix (.var 1) (.con (.int 0))))) (.cons (.exp (.call "need_room" (.cons (.var 3) .nil))) (.cons (.ret (.call "web_of" (.cons (.var 3) (.cons (.op .add (.bi .list (.cons (.ix (.var 0) (.con (.int 1))) .nil)) (.comp (.seq (.ix (.var 1) (.con (.int 1)))) [none,none,none,some 2] (.tp [1,2]) .yes (.tup (.cons (.op .add (.var 3) (.var 1)) (.cons (.op .add (.var 3) (.var 2)) .nil))))) .nil)))) .nil))))))⟩
noncomputable def qmH:Fn:=⟨2,2,false,(.cons (.ret (.tup (.cons (.var 0) (.cons (.bi .tuple (.cons (.bi .sorted (.cons (.var 1) .nil)) .nil)) .nil)))) .nil)⟩
noncomputable def qif:Fn:=⟨1,1,false,(.cons (.ite (.cmp .gt (.var 0) (.glb "MOST")) (.cons .unk .nil) .nil) .nil)⟩
structure Mw(p:Pr):Prop where
 crowned:p.fns "crowned" = some qlX
 beside:p.fns "beside" = some qnz
 web_of:p.fns "web_of" = some qmH
 need_room:p.fns "need_room" = some qif
theorem le_int(a b:Int):qi .le (.int a) (.int b)=.ok (decide (a≤b)):=rfl
section
variable{p:Pr}(B:Web p)(M:Mw p)
include B M
end
section
variable{m:Int}{ts:List (Int×Int)}
noncomputable def on(m:Int)(ts:List (Int×Int))(s:List Int):Bool:=(rng m).all fun a=>decide (((mk m ts s a).length:Int)=1)
noncomputable def rest(m:Int)(s:List Int):List Int:=(rng m).filter fun x=>!s.any fun t=>t==x
theorem qur{s:List Int}{x:Int}:x∈rest m s↔(0≤x∧x<m)∧x∉s:=by
 rw [rest,List.mem_filter,qej];refine and_congr_right fun _=>?_
 rw [Bool.not_eq_true',←Bool.not_eq_true,qfO]
theorem qnU(a:Int):(hd m ts a).Pairwise (· < ·):=(qhT m).sublist List.filter_sublist
theorem qji{a:Int}(ha:0≤a∧a<m)(hn:(hd m ts a).length≠1):∃y∈hd m ts a,y≠a:=by
 refine Classical.byContradiction fun z=>hn ?_
 have all:∀y∈hd m ts a,y=a:=fun y hy=>Classical.byContradiction fun e=>z ⟨y,hy,e⟩
 have h1:=(qiD (qnU (m:=m) (ts:=ts) a)).mpr fun x hx y hy=>(all x hx).trans (all y hy).symm
 have h2:0<(hd m ts a).length:=List.length_pos_of_mem (qcU ha);lia
theorem qjF(h:GW m ts){s:List Int}(g:GS m s)(hs:sp m ts s=[])(hn:∀a,0≤a→a<m→(hd m ts a).length≠1):un m ts (rest m s)=[]:=by
 rw [qnp];intro a h0 h1;by_cases q:a∈s
 ·obtain⟨y,hy,ey⟩:=qji ⟨h0,h1⟩ (hn a h0 h1);have ry:=((qll h).mp hy).1;refine Classical.byContradiction fun z=>?_
  have all:∀y∈hd m ts a,y≠a→y∈s:=fun y hy ey=>Classical.byContradiction fun e=>z ⟨y,qur.mpr ⟨((qll h).mp hy).1,e⟩,hy⟩
  have ne:=qsS hs q;cases w:ow m ts s a with
  |nil=>exact ne w
  |cons b r=>
   have hb:b∈ow m ts s a:=by rw [w];exact List.mem_cons_self
   rw [ow,List.mem_filter,decide_eq_true_eq]at hb;have rb:=qej.mp hb.1;have ab:a∈mk m ts s b:=by rw [hb.2];simp
   have ab:=(mem_mk.mp ab).2;by_cases e:b=a
   ·subst e;have:y∈mk m ts s b:=mem_mk.mpr ⟨all y hy ey,hy⟩;rw [hb.2]at this;exact ey (List.mem_singleton.mp this)
   ·have bs:=all b (qqH rb ab) e;have:b∈mk m ts s b:=mem_mk.mpr ⟨bs,qcU rb⟩;rw [hb.2]at this;exact e (List.mem_singleton.mp this)
 ·exact⟨a,qur.mpr ⟨⟨h0,h1⟩,q⟩,qcU ⟨h0,h1⟩⟩
end
noncomputable def qbF:Fn:=⟨1,3,false,(.cons (.exp (.call "need_web" (.cons (.var 0) .nil))) (.cons (.ite (.val (.bi .any (.cons (.comp (.seq (.call "hoods" (.cons (.var 0) .nil))) [none,none] (.nm 1) .yes (.cmp .eq (.bi .len (.cons (.var 1) .nil)) (.con (.int 1)))) .nil))) (.cons (.ret (.con .non)) .nil) .nil) (.cons (.set (.nm 1) (.rtup (.rng (.ix (.var 0) (.con (.int 0)))))) (.cons (.set (.nm 2) (.call "leaned" (.cons (.var 0) (.cons (.var 1) .nil)))) (.cons (.ret (.tup (.cons (.var 2) (.cons (.bi .tuple (.cons (.comp (.seq (.var 1)) [none,none,some 2] (.nm 1) (.cmp .notin (.var 1) (.var 2)) (.var 1)) .nil)) .nil)))) .nil)))))⟩
noncomputable def ol(m:Int)(ts:List (Int×Int)):List (List Int):=(qaO (subs m.toNat)).filter (on m ts)
theorem qkk{p:Pr}(B:Web p)(O:Nbr p)(S:qbT p)(U:Un p)(P:Sp p)(N:Ld p)(hA:p.fns "need_all" = some qaD)(hf:p.fns "two_parts" = some qbF){k:Nat}{m:Int}{ts:List (Int×Int)}(h:GW m ts):((rng m).any (fun a=>decide (((hd m ts a).length:Int)=1))=true∧qc p (k+9) "two_parts" [wb m ts]=.ok .non)∨((∀a,0≤a→a<m→(hd m ts a).length≠1)∧qc p (k+9) "two_parts" [wb m ts]=.ok (.tup [tu (lw m ts 8 (rng m)),tu (rest m (lw m ts 8 (rng m)))])):=by
 have h1:=h.lo;have h2:=h.hi;have z1:=need_web B (k:=k+4) h;have z2:=hoods B O (k:=k+3) h;have hr:(rng m).length=m.toNat:=zS m;have hc:evE ⟨qc p (k+8),p.glb,p.sub,p.cat⟩ (.comp (.seq (.call "hoods" (.cons (.var 0) .nil))) [none,none] (.nm 1) .yes (.cmp .eq (.bi .len (.cons (.var 1) .nil)) (.con (.int 1)))) [some (wb m ts),none,none]=.ok (.lst ((rng m).map fun a=>.bl (decide (((hd m ts a).length:Int)=1)))):=by
  refine qnY (f:=fun a=>tu (hd m ts a)) (c:=[]) (fun a=>.bl (decide (((hd m ts a).length:Int)=1))) (qeh ?_) (by rw [hr];simp only [SZ];lia) rfl fun a _=>?_
  ·generalize (D.tup ((rng m).map fun a=>tu (hd m ts a)))=HD at *;simp [KG.Z,z2]
  ·simp [KG.Z,qqA,eq_int]
 have ha:=qss (rng m) fun a=>decide (((hd m ts a).length:Int)=1)
 have body:∀o,qq ⟨qc p (k+8),p.glb,p.sub,p.cat⟩ qbF.body [some (wb m ts),none,none]=o→(∀d,o=.rt d→qc p (k+9) "two_parts" [wb m ts]=.ok d):=fun o e d hd=>by
  rw [qZ hf];exact zw (τ:=[some (wb m ts),none,none]) rfl rfl (e.trans hd)
 cases q:(rng m).any fun a=>decide (((hd m ts a).length:Int)=1)with
 |true=>
  refine .inl ⟨rfl,body _ ?_ _ rfl⟩;show qq _ (.cons (.exp _) (.cons (.ite (.val (.bi .any (.cons _ .nil))) (.cons (.ret (.con .non)) .nil) .nil) _)) _=_;refine qbm (σ:=[some (wb m ts),none,none]) (by
   generalize wb m ts=WB at *;simp [KG.Z,z1]) ?_
  rw [qq,zQ,qbB,qr,zx,hc];simp only [R.bind_ok,zx,ha,q];simp [KG.Z]
 |false=>
  have hn:∀a,0≤a→a<m→(hd m ts a).length≠1:=fun a h0 h1' z=>by
   rw [List.any_eq_false]at q;exact q a (qej.mpr ⟨h0,h1'⟩) (by rw [z];rfl)
  have ga:=GS.all h1 h2;have z3:=leaned B O S U P N hA (k:=k) h ga qfu;generalize hlw:lw m ts 8 (rng m)=d at *;refine .inr ⟨hn,body _ ?_ _ rfl⟩;have hc2:evE ⟨qc p (k+8),p.glb,p.sub,p.cat⟩ (.comp (.seq (.var 1)) [none,none,some 2] (.nm 1) (.cmp .notin (.var 1) (.var 2)) (.var 1)) [some (wb m ts),some (tu (rng m)),some (tu d)]=.ok (.lst ((rest m d).map D.int)):=
   qdu (f:=D.int) (c:=[some (tu d)]) (fun x=>!d.any fun t=>t==x) D.int (qeh rfl) (by rw [hr];simp only [SZ];lia) rfl fun x _=>⟨qkq d x,fun _=>rfl⟩
  have o2:b1 .tuple [.lst ((rest m d).map D.int)]=.ok (tu (rest m d)):=rfl;show qq _ (.cons (.exp _) (.cons (.ite (.val (.bi .any (.cons _ .nil))) _ _) (.cons (.set (.nm 1) (.rtup (.rng (.ix (.var 0) (.con (.int 0)))))) (.cons (.set (.nm 2) _) (.cons (.ret (.tup (.cons (.var 2) (.cons (.bi .tuple (.cons _ .nil)) .nil)))) .nil))))) _=_;refine qbm (σ:=[some (wb m ts),none,none]) (by
   generalize wb m ts=WB at *;simp [KG.Z,z1]) ?_
  refine qbm (σ:=[some (wb m ts),none,none]) (by
   rw [zQ,qbB,qr,zx,hc];simp only [R.bind_ok,zx,ha,q];simp [KG.Z]) ?_
  refine qbm (σ:=[some (wb m ts),some (tu (rng m)),none]) (by
   have s1:qe m=true:=by simp [qe];lia
   have i1:ixD (wb m ts) (.int 0)=.ok (.int m):=rfl;have rr:(D.tup (zD 0 m.toNat))=tu (rng m):=by rw [zz]
   generalize wb m ts=WB at *;simp [KG.Z,i1,s1,rr]) ?_
  refine qbm (σ:=[some (wb m ts),some (tu (rng m)),some (tu d)]) (by
   generalize wb m ts=WB at *;generalize tu (rng m)=TR at *;generalize tu d=TD at *;simp [KG.Z,z3]) ?_
  generalize hE:EV.E.comp (.seq (.var 1)) [none,none,some 2] (.nm 1) (.cmp .notin (.var 1) (.var 2)) (.var 1)=EE at *;generalize D.lst ((rest m d).map D.int)=LR at *;generalize tu (rest m d)=TE at *;generalize wb m ts=WB at *;generalize tu (rng m)=TR at *;generalize tu d=TD at *;simp [KG.Z,hc2,o2]
end KG
namespace K24
open EV KG
open PySem (Str)
open L2 (atI ixN ltP)
theorem W8:Web p:=⟨by kernel_rfl,by kernel_rfl,by kernel_rfl,by kernel_rfl,by kernel_rfl,by kernel_rfl,by kernel_rfl,by kernel_rfl⟩
theorem Dr:qeE p:=⟨by kernel_rfl,by kernel_rfl,by kernel_rfl⟩
theorem O:qnc p:=⟨⟨by kernel_rfl,by kernel_rfl,by kernel_rfl,by kernel_rfl,by kernel_rfl⟩,by kernel_rfl⟩
theorem S:qbT p:=⟨by kernel_rfl,by kernel_rfl,by kernel_rfl⟩
theorem U:Un p:=⟨by kernel_rfl,by kernel_rfl⟩
theorem P:Sp p:=⟨by kernel_rfl,by kernel_rfl⟩
theorem Ln0:Ld p:=⟨by kernel_rfl,by kernel_rfl⟩
theorem hA:p.fns "need_all" = some KG.qaD:=by kernel_rfl
theorem hT:p.fns "two_parts" = some KG.qbF:=by kernel_rfl
theorem hSo:p.fns "_law_some" = some KG.qal:=by kernel_rfl
theorem hH:p.fns "_law_held" = some KG.qaV:=by kernel_rfl
theorem qgw{p:Pr}(hf:p.fns "_law_some" = some KG.qal){k:Nat}{m:Int}(h1:0≤m)(h2:m≤8)(n:Nat):qc p (k+1) "_law_some" [.int m,.int n]=.ok (tu (bs m n)):=by
 rw [qZ hf];refine zw rfl rfl ?_;have hc:evE ⟨qc p k,p.glb,p.sub,p.cat⟩ (.comp (.rng (.var 0)) [none,none,some 1] (.nm 1) (.cmp .eq (.op .band (.op .shr (.var 2) (.var 1)) (.con (.int 1))) (.con (.int 1))) (.var 1)) [some (.int m),some (.int n)]=.ok (.lst ((bs m n).map D.int)):=by
  rw [bs,←qcS,←zz];refine qbS (c:=[some (.int n)]) ?_ ?_ rfl ?_
  ·have:qe m=true:=by simp [qe];lia
   simp [KG.Z,this]
  ·simp [zD,SZ];lia
  ·intro x hx;rw [zz,List.mem_map]at hx;obtain⟨b,hb,rfl⟩:=hx;obtain⟨b0,b1⟩:=qej.mp hb;have e:=qgd n b.toNat;have e2:qi .eq (.int (PySem.Builtin.bitAnd ((n:Int)/2^b.toNat) 1)) (.int 1)=.ok (n.testBit b.toNat):=by
    rw [e,eq_int];cases n.testBit b.toNat<;>rfl
   simp [KG.Z,op2,b0,e2];cases n.testBit b.toNat<;>simp
 simp [KG.Z,KG.qal,hc,b1,seq?]
theorem qjj:∀n,n<256→∀x,x<8→(n ||| 2^x)=(n ^^^ 2^x)+(n &&& 2^x):=by decide +kernel
theorem qov:∀m,m<9→∀n,n<256→((2^m-1) |||n)=((2^m-1) ^^^ n)+((2^m-1) &&& n):=by decide +kernel
theorem qeQ{a b:Nat}(h:(a |||b)=(a ^^^ b)+(a &&& b)):op2 .bxor (.int a) (.int b)=.ok (.int ((a ^^^ b:Nat):Int)):=by
 show R.ok (D.int (PySem.Builtin.bitOr (a:Int) (b:Int)-PySem.Builtin.bitAnd (a:Int) (b:Int)))=_;rw [qfP,qho,h]
 congr 2
 lia
theorem qiM{m:Int}{n:Nat}{x:Int}(hx:x∈bs m n):bs m (n ^^^ 2^x.toNat)=(bs m n).filter fun y=>!decide (y=x):=by
 obtain⟨⟨x0,xm⟩,xb⟩:=qrO.mp hx;rw [bs,bs,List.filter_filter];refine List.filter_congr fun y hy=>?_
 obtain⟨y0,ym⟩:=qej.mp hy;rw [Nat.testBit_xor,Nat.testBit_two_pow];by_cases e:y=x
 ·subst e;simp [xb]
 ·have:¬ x.toNat=y.toNat:=by lia
  simp [e,this]
theorem qiT(m:Int):bs m (2^m.toNat-1)=rng m:=by
 rw [bs,List.filter_eq_self];intro a ha;obtain⟨a0,am⟩:=qej.mp ha;rw [Nat.testBit_two_pow_sub_one,decide_eq_true_eq];lia
theorem qpF{m:Int}{n:Nat}:bs m ((2^m.toNat-1) ^^^ n)=rest m (bs m n):=by
 rw [bs,rest];refine List.filter_congr fun y hy=>?_
 obtain⟨y0,ym⟩:=qej.mp hy;rw [Nat.testBit_xor,Nat.testBit_two_pow_sub_one,decide_eq_true (by lia),Bool.eq_iff_iff,Bool.not_eq_true',←Bool.not_eq_true,qfO,qrO];cases n.testBit y.toNat<;>simp [y0,ym]
theorem qpR{m:Int}{n:Nat}{x:Int}(h:n<2^m.toNat)(hx:x∈bs m n):n ^^^ 2^x.toNat<2^m.toNat:=by
 obtain⟨⟨x0,xm⟩,_⟩:=qrO.mp hx;exact Nat.xor_lt_two_pow h (Nat.pow_lt_pow_right (by decide) (by lia))
theorem qiA{m:Int}{ts:List (Int×Int)}:∀(n k:Nat) (s:List Int),sp m ts (lw m ts n s)=[]→lw m ts (n+k) s=lw m ts n s
 | 0,k,s,h=>by rw [lw]at h;rw [qee h,qee h]
 |n+1,k,s,h=>by
  rw [show n+1+k=(n+k)+1 by lia,lw,lw];cases q:sp m ts s with
  |nil=>rfl
  |cons a r=>
   rw [lw,q]at h;exact qiA n k _ h
theorem qdO{k:Nat}{m:Int}{ts:List (Int×Int)}(h:GW m ts){N:List Nat}(hN:qbH m ts N)(n:Nat):∃H:Nat,qc p (k+1) "_law_held" [ln N,.int n]=.ok (.int H)∧decide (((H:Nat):Int)=((2^m.toNat:Nat):Int)-1)=decide (un m ts (bs m n)=[]):=by
 obtain⟨H,hH,e⟩:=qmC hH (k:=k) hN n;exact⟨H,e,by rw [qmp h hH,qtH]⟩
abbrev LE(N:List Nat)(E:Int)(n:Nat)(v3 v4:Option D):Env:=[some (ln N),some (.int E),some (.int (n:Int)),v3,v4]
theorem qmQ{k:Nat}{m:Int}{ts:List (Int×Int)}(h:GW m ts){N:List Nat}(hN:qbH m ts N):∃n:Nat,n<2^m.toNat∧bs m n=lw m ts 8 (rng m)∧qc p (k+2) "_law_lean" [ln N]=.ok (.int n):=by
 have h1:=h.lo;have h2:=h.hi;have hl:=hN.len;have hlen:b1 .len [ln N]=.ok (.int m):=by
  show R.ok (D.int ((N.map fun(x:Nat)=>D.int (x:Int)).length:Int))=_;rw [List.length_map,hl];congr 2;lia
 have hsh:∀i:Int,0≤i→i≤8→op2 .shl (.int 1) (.int i)=.ok (.int ((2^i.toNat:Nat):Int)):=fun i h0 h8=>by
  show opI .shl 1 i=_;rw [qem i h0 h8,qbD]
 have hp:=qlk (m:=m.toNat) (by lia);have hp0:0<2^m.toNat:=Nat.two_pow_pos _;have eE:((2^m.toNat:Nat):Int)-1=((2^m.toNat-1:Nat):Int):=by lia
 have sm:qe m=true:=by simp [qe];lia
 suffices hs:∃d,qc p (k+2) "_law_lean" [ln N]=.ok d∧∃n:Nat,n<2^m.toNat∧bs m n=lw m ts m.toNat (rng m)∧d=.int n by
  obtain⟨d,e,n,g1,g2,rfl⟩:=hs;refine⟨n,g1,?_,e⟩;have ga:=GS.all h1 h2;have:=(qgV (m:=m) (ts:=ts) m.toNat (rng m) ga qfu (by rw [zS];exact Nat.le_refl _)).2.2.1;rw [g2,←qiA m.toNat (8-m.toNat) _ this]
  congr 1;lia
 refine qcT (k:=k+1) (τ:=[some (ln N),none,none,none,none]) qhD rfl rfl ?_;refine zr (σ:=[some (ln N),some (.int (((2^m.toNat:Nat):Int)-1)),none,none,none]) (by
  have a:=hsh m (by lia) h2;have b:∀X:Int,op2 .sub (.int X) (.int 1)=.ok (.int (X-1)):=fun _=>rfl
  generalize ((2^m.toNat:Nat):Int)=X at *;generalize ln N=LN at *;simp [KG.Z,hlen,a,b]) ?_
 rw [eE];generalize hM:((2^m.toNat-1:Nat):Int)=E at *;refine zr (σ:=LE N E (2^m.toNat-1) none none) (by
  dsimp only [LE];rw [hM];generalize ln N=LN at *;simp [KG.Z]) ?_
 refine qde (ds:=(rng m).map D.int) (fun r σ=>∃(ms:List Int) (n:Nat) (v3 v4:Option D),r=ms.map D.int∧n<2^m.toNat∧un m ts (bs m n)=[]∧lw m ts ms.length (bs m n)=lw m ts m.toNat (rng m)∧σ=LE N E n v3 v4) (by
   rw [←zz];dsimp only [LE];generalize ln N=LN at *;simp [KG.Z,hlen,sm]) ⟨_,_,none,none,rfl,by lia,by rw [qiT];exact qfu,by rw [qiT,zS],rfl⟩ ?_ ?_
 ·rintro x t σ ⟨ms,n,v3,v4,e,hn,hu,hw,rfl⟩;obtain⟨c,ms,rfl,rfl,rfl⟩:=fx e;have g:=qtv h2 n;refine⟨LE N E n (some (.int c)) v4,rfl,?_⟩;have c1:evE (wAt p (k+1)) (.comp (.rng (.bi .len (.cons (.var 0) .nil))) [none,none,some 2] (.nm 1) (.cmp .eq (.op .band (.op .shr (.var 2) (.var 1)) (.con (.int 1))) (.con (.int 1))) (.var 1)) (LE N E n (some (.int c)) v4)=.ok (.lst ((bs m n).map D.int)):=by
   refine qdu (f:=D.int) (l:=rng m) (c:=[some (.int n)]) (fun i=>n.testBit i.toNat) D.int ?_ (by rw [zS];simp only [SZ];lia) rfl fun b hb=>⟨?_,fun _=>rfl⟩
   ·rw [←zz];dsimp only [LE];generalize ln N=LN at *;simp [KG.Z,hlen,sm]
   ·obtain⟨b0,b1⟩:=qej.mp hb;have e2:qi .eq (.int (PySem.Builtin.bitAnd ((n:Int)/2^b.toNat) 1)) (.int 1)=.ok (n.testBit b.toNat):=by
     rw [qgd n b.toNat,eq_int];cases n.testBit b.toNat<;>rfl
    simp [KG.Z,op2,b0,e2]
  refine zr (σ:=LE N E n (some (.int c)) (some (.lst ((bs m n).map D.int)))) (by rw [zL,c1];rfl) ?_;have c2:evE (wAt p (k+1)) (.comp (.seq (.var 4)) [none,none,some 1,some 2,some 0] (.nm 1) (.cmp .eq (.call "_law_held" (.cons (.var 4) (.cons (.op .bxor (.var 3) (.op .shl (.con (.int 1)) (.var 1))) .nil))) (.var 2)) (.var 1)) (LE N E n (some (.int c)) (some (.lst ((bs m n).map D.int))))=.ok (.lst ((sp m ts (bs m n)).map D.int)):=by
   refine qdu (f:=D.int) (l:=bs m n) (c:=[some (.int E),some (.int n),some (ln N)]) (fun x=>decide (ow m ts (bs m n) x=[])) D.int (qsc rfl) (by have:=g.len;simp only [SZ];lia) rfl fun x hx=>⟨?_,fun _=>rfl⟩
   obtain⟨x0,xm⟩:=g.ok x hx;obtain⟨H,e1,e2⟩:=qdO (k:=k) h hN (n ^^^ 2^x.toNat);have e3:=hsh x x0 (by lia);have e4:=qeQ (qjj n (by lia) x.toNat (by lia));have e5:=eq_int (H:Int) E;have e6:decide ((H:Int)=E)=decide (ow m ts (bs m n) x=[]):=by
    rw [←eE,e2,qiM hx,decide_eq_decide];have q:=qfS (ts:=ts) g hx;rw [hu,sp,List.mem_filter,decide_eq_true_eq]at q;exact q.trans ⟨fun z=>z.2,fun z=>⟨hx,z⟩⟩
   rw [e6]at e5;clear c1 hw;generalize ((2^x.toNat:Nat):Int)=X2 at *;generalize ((n ^^^ 2^x.toNat:Nat):Int)=X3 at *;generalize ln N=LN at *;have e1:(wAt p (k+1)).call "_law_held" [LN,.int X3]=.ok (.int H):=e1;generalize wAt p (k+1)=w at *;simp [KG.Z,e3,e4,e1,e5]
  refine zr (σ:=LE N E n (some (.int c)) (some (.lst ((sp m ts (bs m n)).map D.int)))) (by rw [zL,c2];rfl) ?_;clear c1 c2;have hne:∀s:List Int,qi .ne (.lst (s.map D.int)) (.lst [])=.ok (!s.isEmpty):=fun s=>by
   cases s with
   |nil=>rfl
   |cons a r=>
    have a1:(D.lst ((a::r).map D.int)).asks=true:=by simp [D.asks,D.plain,D.deep,plainAll,qar,qbo,qbJ]
    rw [qi,a1];rfl
  cases q:sp m ts (bs m n)with
  |nil=>
   refine zr (σ:=LE N E n (some (.int c)) (some (.lst []))) (by
    have:=hne [];dsimp only [LE];generalize ln N=LN at *;simp [KG.Z,this]
    rfl) (zI ⟨ms,n,_,_,rfl,hn,hu,?_,rfl⟩)
   rw [List.length_cons,qee q]at hw;rw [qee q,hw]
  |cons a r=>
   have hla:(a::r).getLast (by simp)∈sp m ts (bs m n):=by rw [q];exact List.getLast_mem _
   have hlb:=qlH hla;have el:ixD (.lst ((a::r).map D.int)) (.int (-1))=.ok (.int ((a::r).getLast (by simp))):=qiV (u:=a::r) (by simp);obtain⟨x0,xm⟩:=g.ok _ hlb;have en:qi .ne (.lst ((a::r).map D.int)) (.lst [])=.ok true:=hne (a::r);have hw2:lw m ts ms.length ((bs m n).filter fun y=>!decide (y=(a::r).getLast (by simp)))=lw m ts m.toNat (rng m):=by
    rw [←hw,List.length_cons,lw,q]
   have hu2:=((qfS (ts:=ts) g hlb).mpr hla).trans hu;generalize (a::r).getLast _=x at *;have e3:=hsh x x0 (by lia);have e4:=qeQ (qjj n (by lia) x.toNat (by lia));rw [←qiM hlb]at hw2 hu2;refine zr (σ:=LE N E (n ^^^ 2^x.toNat) (some (.int c)) (some (.lst ((a::r).map D.int)))) (by
    dsimp only [LE];clear hw2 hu2 hw hu;generalize ((n ^^^ 2^x.toNat:Nat):Int)=X3 at *;generalize ((2^x.toNat:Nat):Int)=X2 at *;generalize hLN:ln N=LN at *;generalize hRR:D.lst ((a::r).map D.int)=RR at *;simp [KG.Z,ze,en,el,e3,e4]) (zI ⟨ms,_,_,_,rfl,qpR hn hlb,hu2,hw2,rfl⟩)
 ·rintro σ ⟨ms,n,v3,v4,e,hn,hu,hw,rfl⟩;have:ms=[]:=by cases ms with|nil=>rfl|cons _ _=>cases e
  subst this;exact qdr (d:=.int (n:Int)) rfl ⟨n,hn,hw,rfl⟩
theorem qjf(a b:List Int):(D.tup [tu a,tu b]).asks=true:=by
 simp [D.asks,D.plain,D.deep,plainAll,qar,qbo,qbJ]
theorem qlN(a b:List Int):(D.tup [tu a,tu b]).eqv (.tup [tu a,tu b])=true:=by
 simp [D.eqv,eqvAll,qdk]
theorem qsC(a b:List Int):qi .eq (.tup [tu a,tu b]) (.tup [tu a,tu b])=.ok true:=by
 rw [qi]
 ·rw [if_pos (by rw [qjf];rfl),qlN]
 all_goals (intros;rintro⟨⟩)
theorem qty(a b:List Int):qi .ne (.tup [tu a,tu b]) (.tup [tu a,tu b])=.ok false:=by
 rw [qi]
 ·rw [if_pos (by rw [qjf];rfl),qlN];rfl
 all_goals (intros;rintro⟨⟩)
theorem ne_nil(s:List Int):qi .ne (.lst (s.map D.int)) (.lst [])=.ok (!s.isEmpty):=by
 cases s with
 |nil=>rfl
 |cons a r=>
  have a1:(D.lst ((a::r).map D.int)).asks=true:=by simp [D.asks,D.plain,D.deep,plainAll,qar,qbo,qbJ]
  rw [qi,a1];rfl
theorem alone{m:Int}{ts:List (Int×Int)}(h:GW m ts){N:List Nat}(hN:qbH m ts N){a:Nat}(ha:a<N.length):(N[a]=2^a)↔(hd m ts (a:Int)).length=1:=by
 have hl:=hN.len;have am:(a:Int)<m:=by lia
 have a0:(0:Int)≤(a:Int):=by lia
 constructor
 ·intro e;refine Classical.byContradiction fun z=>?_
  obtain⟨y,hy,hne⟩:=qji ⟨a0,am⟩ z;obtain⟨⟨y0,ym⟩,hy⟩:=qeY.mp hy;have b:=hN.bit a ha y.toNat;rw [e,qcC h,Nat.testBit_two_pow]at b;have t:qax ts (a:Int) ((y.toNat:Nat):Int)=true:=by
   rw [show ((y.toNat:Nat):Int)=y by lia];exact hy.resolve_left hne
  rw [t,Bool.or_true,decide_eq_true_eq]at b;lia
 ·intro e;refine Nat.eq_of_testBit_eq fun i=>?_
  rw [hN.bit a ha i,Nat.testBit_two_pow,near];cases q:ts.any fun t=>(t.1==(a:Int)&&t.2==(i:Int))||(t.1==(i:Int)&&t.2==(a:Int))with
  |false=>rw [Bool.or_false];rfl
  |true=>
   rw [Bool.or_true];have im:(i:Int)<m:=by
    obtain⟨t,ht,e⟩:=List.any_eq_true.mp q;have:=h.ok t ht;simp only [Bool.or_eq_true,Bool.and_eq_true,beq_iff_eq]at e;lia
   have n:near ts a i=true:=by rw [near,q,Bool.or_true]
   rw [qcC h,Bool.or_eq_true,beq_iff_eq]at n;have hi:(i:Int)∈hd m ts (a:Int):=qeY.mpr ⟨⟨by lia,im⟩,n.imp (fun z=>by lia) id⟩;have:=(qiD (qnU (m:=m) (ts:=ts) (a:Int))).mp (by lia) _ hi _ (qcU ⟨a0,am⟩);symm;rw [decide_eq_true_eq];lia
abbrev RE(m:Int)(ts:List (Int×Int))(N:List Nat)(f:D)(v4 v5:Option D):Env:=[some (wb m ts),some (.int m),some (ln N),some f,v4,v5]
theorem qlZ{k:Nat}{m:Int}{ts:List (Int×Int)}(h:GW m ts):qc p (k+10) "_law_right" [wb m ts]=.ok (.bl true):=by
 have h1:=h.lo;have h2:=h.hi;obtain⟨N,hN,e0⟩:=qlv O (k:=k+8) h;have hl:=hN.len;have ix:ixD (wb m ts) (.int 0)=.ok (.int m):=rfl;have sm:qe m=true:=by simp [qe];lia
 have hp:=qlk (m:=m.toNat) (by lia);have hp0:0<2^m.toNat:=Nat.two_pow_pos _;have hsh:∀i:Int,0≤i→i≤8→op2 .shl (.int 1) (.int i)=.ok (.int ((2^i.toNat:Nat):Int)):=fun i h0 h8=>by
  show opI .shl 1 i=_;rw [qem i h0 h8,qbD]
 have cc:∀f v4 v5,evE (wAt p (k+9)) (.comp (.rng (.var 1)) [none,none,some 2] (.nm 1) (.cmp .eq (.ix (.var 2) (.var 1)) (.op .shl (.con (.int 1)) (.var 1))) (.var 1)) (RE m ts N f v4 v5)=.ok (.lst (((rng m).filter fun a=>decide (((hd m ts a).length:Int)=1)).map D.int)):=fun f v4 v5=>by
  refine qdu (f:=D.int) (l:=rng m) (c:=[some (ln N)]) (fun a=>decide (((hd m ts a).length:Int)=1)) D.int ?_ (by rw [zS];simp only [SZ];lia) rfl fun b hb=>⟨?_,fun _=>rfl⟩
  ·rw [←zz];dsimp only [RE];generalize wb m ts=WB at *;generalize ln N=LN at *;simp [KG.Z,sm]
  ·obtain⟨b0,b1⟩:=qej.mp hb;obtain⟨a,rfl⟩:∃a:Nat,b=a:=⟨b.toNat,by lia⟩
   have la:a<N.length:=by lia
   have e1:=qkD la;have e2:=hsh (a:Int) b0 (by lia);have e3:=eq_int ((N[a]:Nat):Int) ((2^(a:Int).toNat:Nat):Int);have e4:decide (((N[a]:Nat):Int)=((2^(a:Int).toNat:Nat):Int))=decide (((hd m ts (a:Int)).length:Int)=1):=by
    rw [decide_eq_decide,Int.toNat_natCast,Int.ofNat_inj,alone h hN la];lia
   rw [e4]at e3;generalize ((2^(a:Int).toNat:Nat):Int)=X at *;generalize ((N[a]:Nat):Int)=Y at *;generalize ln N=LN at *;simp [KG.Z,e1,e2,e3]
 obtain⟨d,e,rfl⟩:∃d,qc p (k+10) "_law_right" [wb m ts]=.ok d∧d=.bl true:=by
  refine qcT (k:=k+9) (τ:=[some (wb m ts),none,none,none,none,none]) qgN rfl rfl ?_;refine zr (σ:=[some (wb m ts),some (.int m),none,none,none,none]) (by
   generalize wb m ts=WB at *;simp [KG.Z,ix]) ?_
  have e0:(wAt p (k+9)).call "_law_masks" [wb m ts]=.ok (ln N):=e0;refine zr (σ:=[some (wb m ts),some (.int m),some (ln N),none,none,none]) (by
   generalize wb m ts=WB at *;generalize wAt p (k+9)=w at *;generalize ln N=LN at *;simp [KG.Z,e0]) ?_
  have T:=qkk W8 O.toNbr S U P Ln0 hA hT (k:=k) h;rcases T with ⟨ha,e1⟩|⟨hn,e1⟩
  ·have e1:(wAt p (k+9)).call "two_parts" [wb m ts]=.ok .non:=e1;refine zr (σ:=RE m ts N .non none none) (by
    dsimp only [RE];generalize wb m ts=WB at *;generalize wAt p (k+9)=w at *;generalize ln N=LN at *;simp [KG.Z,e1]) ?_
   have cc:=cc .non none none;have q:((rng m).filter fun a=>decide (((hd m ts a).length:Int)=1)).isEmpty=false:=by
    obtain⟨a,h3,h4⟩:=List.any_eq_true.mp ha;cases z:(rng m).filter fun a=>decide (((hd m ts a).length:Int)=1)with
    |nil=>exact absurd (List.mem_filter.mpr ⟨h3,h4⟩) (by rw [z];simp)
    |cons _ _=>rfl
   have nn:=ne_nil ((rng m).filter fun a=>decide (((hd m ts a).length:Int)=1));rw [q]at nn;have is1:qi .is .non .non=.ok true:=rfl;refine zZ (K:=fun _=>False) (qdg (v:=true) ?_ (fun _=>qdr (d:=.bl true) (by
    dsimp only [RE];generalize wb m ts=WB at *;generalize wAt p (k+9)=w at *;generalize ln N=LN at *;simp [KG.Z,is1]) rfl) (fun z=>by cases z)) fun _ z=>z.elim
   rw [qbE,cc];rw [show evE (wAt p (k+9)) (.lst .nil) (RE m ts N .non none none)=.ok (.lst [])from rfl];exact nn
  ·obtain⟨n,hn1,hn2,e2⟩:=qmQ (k:=k+7) h hN;have ga:=GS.all h1 h2;obtain⟨r1,r2,r3,r4⟩:=qgV (m:=m) (ts:=ts) 8 (rng m) ga qfu ga.len;have r5:=qjF h r1 r3 hn;have eR:bs m ((2^m.toNat-1) ^^^ n)=rest m (lw m ts 8 (rng m)):=by rw [qpF,hn2]
   have s1:=qgw hSo (k:=k+8) (m:=m) (by lia) h2 n;have s2:=qgw hSo (k:=k+8) (m:=m) (by lia) h2 ((2^m.toNat-1) ^^^ n);obtain⟨H1,t1,u1⟩:=qdO (k:=k+8) h hN n;obtain⟨H2,t2,u2⟩:=qdO (k:=k+8) h hN ((2^m.toNat-1) ^^^ n);rw [hn2]at s1 u1;rw [eR]at s2 u2;rw [r2,decide_eq_true rfl,decide_eq_true_eq]at u1;rw [r5,decide_eq_true rfl,decide_eq_true_eq]at u2;have bx:=qeQ (qov m.toNat (by lia) n (by lia));have eE:((2^m.toNat-1:Nat):Int)=((2^m.toNat:Nat):Int)-1:=by lia
   rw [eE]at bx;have e3:=hsh m (by lia) h2;have sb:∀X:Int,op2 .sub (.int X) (.int 1)=.ok (.int (X-1)):=fun _=>rfl
   have q1:=qsC (lw m ts 8 (rng m)) (rest m (lw m ts 8 (rng m)));have q2:=qty (lw m ts 8 (rng m)) (rest m (lw m ts 8 (rng m)));have i1:∀(w:W),qaY w (.tup [tu (lw m ts 8 (rng m)),tu (rest m (lw m ts 8 (rng m)))]) (.ty "tuple")=.ok (.bl true):=fun _=>rfl
   have z1:=eq_int (H1:Int) (H2:Int);have z2:=eq_int (H2:Int) (((2^m.toNat:Nat):Int)-1);rw [u1,u2,decide_eq_true rfl]at z1;rw [u2,decide_eq_true rfl]at z2;rw [u1]at t1;rw [u2]at t2;have q:((rng m).filter fun a=>decide (((hd m ts a).length:Int)=1))=[]:=by
    rw [List.filter_eq_nil_iff];intro a ha;obtain⟨a0,am⟩:=qej.mp ha;rw [decide_eq_true_eq];have:=hn a a0 am;lia
   have nn:=ne_nil ((rng m).filter fun a=>decide (((hd m ts a).length:Int)=1));rw [q]at nn;generalize lw m ts 8 (rng m)=LW at *;generalize rest m LW=RS at *;generalize ((2^m.toNat:Nat):Int)=E2 at *;generalize (((2^m.toNat-1) ^^^ n:Nat):Int)=X at *;have tp:evE (wAt p (k+9)) (.tup (.cons (.var 4) (.cons (.var 5) .nil))) [none]=evE (wAt p (k+9)) (.tup (.cons (.var 4) (.cons (.var 5) .nil))) [none]:=rfl;have cc:=fun v4 v5=>cc (.tup [tu LW,tu RS]) v4 v5
   rw [q]at cc;have e1:(wAt p (k+9)).call "two_parts" [wb m ts]=.ok (.tup [tu LW,tu RS]):=e1;have e2:(wAt p (k+9)).call "_law_lean" [ln N]=.ok (.int n):=e2;have s1:(wAt p (k+9)).call "_law_some" [.int m,.int n]=.ok (tu LW):=s1;have s2:(wAt p (k+9)).call "_law_some" [.int m,.int X]=.ok (tu RS):=s2;have t1:(wAt p (k+9)).call "_law_held" [ln N,.int n]=.ok (.int (E2-1)):=t1;have t2:(wAt p (k+9)).call "_law_held" [ln N,.int X]=.ok (.int (E2-1)):=t2;clear e0 hN hl tp hn hn1 hn2 r1 r2 r3 r4 r5 u1 u2 ga;generalize wAt p (k+9)=w at *;generalize (n:Int)=n at *;generalize tu LW=TL at *;generalize tu RS=TR at *;refine zr (σ:=RE m ts N (.tup [TL,TR]) none none) (by
    dsimp only [RE];generalize wb m ts=WB at *;generalize ln N=LN at *;simp [KG.Z,e1]) ?_
   refine zr (σ:=RE m ts N (.tup [TL,TR]) none none) (by
    have tt:evT w (.cmp .ne (.comp (.rng (.var 1)) [none,none,some 2] (.nm 1) (.cmp .eq (.ix (.var 2) (.var 1)) (.op .shl (.con (.int 1)) (.var 1))) (.var 1)) (.lst .nil)) (RE m ts N (.tup [TL,TR]) none none)=.ok false:=by
     rw [qbE,cc];rw [show evE w (.lst .nil) (RE m ts N (.tup [TL,TR]) none none)=.ok (.lst [])from rfl];exact nn
    rw [zQ,tt]
    rfl) ?_
   clear cc;refine zr (σ:=RE m ts N (.tup [TL,TR]) (some (.int n)) none) (by
    dsimp only [RE];generalize wb m ts=WB at *;generalize ln N=LN at *;simp [KG.Z,e2]) ?_
   refine zr (σ:=RE m ts N (.tup [TL,TR]) (some (.int n)) (some (.int X))) (by
    dsimp only [RE];generalize wb m ts=WB at *;generalize ln N=LN at *;simp [KG.Z,e3,sb,bx]) ?_
   refine zr (σ:=RE m ts N (.tup [TL,TR]) (some (.int n)) (some (.int X))) (by
    dsimp only [RE];generalize wb m ts=WB at *;generalize ln N=LN at *;simp [KG.Z,s1,s2,q2,i1]) ?_
   refine qdr (d:=.bl true) (by
    dsimp only [RE];generalize wb m ts=WB at *;generalize ln N=LN at *;simp [KG.Z,e3,sb,t1,t2,z1,z2,e1,q1]) rfl
 exact e
theorem qlJ{α β:Type} [DecidableEq α] [DecidableEq β](f:α→β)(hf:∀a b,f a=f b→a=b):∀l:List α,uq (l.map f)=(uq l).map f
 | []=>rfl
 |a::l=>by
  rw [List.map_cons,uq,uq,qlJ f hf l];by_cases h:a∈l
  ·rw [if_pos h,if_pos (List.mem_map.mpr ⟨a,h,rfl⟩)]
  ·rw [if_neg h,if_neg (fun z=>by obtain⟨b,hb,e⟩:=List.mem_map.mp z;exact h (hf _ _ e▸hb)),List.map_cons]
theorem qmO(ts:List (Int×Int))(hz:ts.length<64):qfc false (.tup (ts.map prD))=.ok (.lst ((zG (uq ts)).map prD)):=by
 simp only [qfc,seq?,qaq];rw [if_pos (by simpa using hz)];cases ts with
 |nil=>rfl
 |cons t r=>
  have e1:ints? ((t::r).map prD)=none:=rfl;have e2:=qdz (KG.qfK (t::r))
  try rw [e1]
  rw [e2];have e3:((t::r).map fun p=>[p.1,p.2]).all (fun t=>!t.isEmpty)=true:=by
   rw [List.all_map,List.all_eq_true];intro x _;rfl
  have e4:uq ((t::r).map fun p=>[p.1,p.2])=(uq (t::r)).map fun p=>[p.1,p.2]:=qlJ _ (fun a b e=>by simp at e;exact Prod.ext e.1 e.2) _
  simp only [e3,e4,qcR,Bool.false_eq_true,if_false,if_true,List.map_map]
  rfl
theorem qpn{m:Int}{ts:List (Int×Int)}(h:GW m ts):GW m (zG (uq (ts++(rng (m-1)).map fun a=>(a,a+1)))):=by
 have h1:=h.lo;have h2:=h.hi;have pm:=qcP (uq (ts++(rng (m-1)).map fun a=>(a,a+1)));have nd:=qgT (ts++(rng (m-1)).map fun a=>(a,a+1));have ok:∀t∈zG (uq (ts++(rng (m-1)).map fun a=>(a,a+1))),0≤t.1∧t.1<t.2∧t.2<m:=fun t ht=>by
  have ht:=qkJ.mp (pm.mem_iff.mp ht);rcases List.mem_append.mp ht with ht|ht
  ·exact h.ok t ht
  ·obtain⟨a,ha,rfl⟩:=List.mem_map.mp ht;have:=qej.mp ha;dsimp only;lia
 have nd2:=pm.nodup_iff.mpr nd;refine⟨h1,h2,qgo (qbM _) nd2,ok,?_⟩;refine Nat.le_trans (List.Nodup.length_le_of_subset nd2 (fun t ht=>?_:_ ⊆ qcN m)) (pok m h1 h2).len;obtain⟨a0,ab,bm⟩:=ok t ht;rw [qcN,List.mem_flatMap];refine⟨t.2,?_,?_⟩
 ·simp only [qeH,List.mem_map,List.mem_range];exact⟨(t.2-1).toNat,by lia,by lia⟩
 ·rw [qkv,List.mem_map];exact⟨t.1,qej.mpr ⟨a0,ab⟩,rfl⟩
abbrev LS(ns:List Int)(v1 v2 v3:Option D):Env:=[some (.lst (ns.map D.int)),v1,v2,v3]
abbrev tp(ts:List (Int×Int)):D:=.tup (ts.map prD)
theorem qmS{w:W}(ns:List Int)(hn:ns.length≤63)(hx:∃x:Int,w.call "_law_cell_at" [.lst (ns.map D.int),.int 0]=.ok (.int x))
  (hst:∀c j:Int,w.call "_law_stir" [.int c,.int j]=.ok (.int (st c j)))
  (hw:∀c:Int,∃ts,GW (1+c%8) ts∧w.call "_law_web" [.int c,.int 8]=.ok (wb (1+c%8) ts))
  (hr:∀m ts,GW m ts→w.call "_law_right" [wb m ts]=.ok (.bl true)):Ends (fun _=>False) (fun d=>d=.bl true) (qq w qfx.body (LS ns none none none)):=by
 have r0:w.call "_law_right" [.tup [.int 1,.tup []]]=.ok (.bl true):=hr 1 [] (by decide +kernel);have r1:w.call "_law_right" [.tup [.int 2,.tup [.tup [.int 0,.int 1]]]]=.ok (.bl true):=hr 2 [(0,1)] (by decide +kernel);have r2:w.call "_law_right" [.tup [.int 3,.tup [.tup [.int 0,.int 1]]]]=.ok (.bl true):=hr 3 [(0,1)] (by decide +kernel);obtain⟨x,hx⟩:=hx;refine zr (σ:=LS ns none none none) (by
  dsimp only [LS];generalize D.lst (ns.map D.int)=NS at *;simp [KG.Z,r0,r1,r2]) ?_
 obtain⟨cs,hcs,hcl⟩:=qpa ns (some 1) (some 4);refine qde (ds:=(x::cs).map D.int) (fun r σ=>∃(ms:List Int) (v1 v2 v3:Option D),r=ms.map D.int∧σ=LS ns v1 v2 v3) ?_ ⟨_,none,none,none,rfl,rfl⟩ ?_ ?_
 ·have e:op2 .add (.lst [.int x]) (.lst (cs.map D.int))=.ok (.lst ((x::cs).map D.int)):=by
   rw [op2,if_pos (by simp [SZ];lia)];simp
  simp [KG.Z,slD,hcs,hx,e,seq?]
 ·rintro y t σ ⟨ms,v1,v2,v3,e,rfl⟩;obtain⟨c,ms,rfl,rfl,rfl⟩:=fx e;obtain⟨ts,g,hw'⟩:=hw c;have m1:=g.lo;have m2:=g.hi;have tl:=g.len;refine⟨LS ns (some (.int c)) v2 v3,rfl,?_⟩;refine zr (σ:=LS ns (some (.int c)) (some (wb (1+c%8) ts)) v3) (by
   dsimp only [LS];generalize wb (1+c%8) ts=WB at *;generalize D.lst (ns.map D.int)=NS at *;simp [KG.Z,hw']) ?_
  generalize 1+c%8=m at *;have i0:ixD (wb m ts) (.int 0)=.ok (.int m):=rfl;have i1:ixD (wb m ts) (.int 1)=.ok (tp ts):=rfl;have cr:=hr m ts g;refine zZ (K:=fun σ=>∃us v3,GW m us∧σ=LS ns (some (.int c)) (some (wb m us)) v3) ?_ ?_
  ·refine qdg (v:=decide (st c 5%2=1)) (by
    dsimp only [LS];generalize wb m ts=WB at *;generalize D.lst (ns.map D.int)=NS at *;simp [KG.Z,op2,hst,eq_int]) (fun _=>?_) (fun _=>zI ⟨ts,v3,g,rfl⟩)
   have hc:evE w (.comp (.rng (.op .sub (.ix (.var 2) (.con (.int 0))) (.con (.int 1)))) [none,none] (.nm 1) .yes (.tup (.cons (.var 1) (.cons (.op .add (.var 1) (.con (.int 1))) .nil)))) (LS ns (some (.int c)) (some (wb m ts)) v3)=.ok (.lst (((rng (m-1)).map fun a=>(a,a+1)).map prD)):=by
    rw [List.map_map];refine qnY (f:=D.int) (l:=rng (m-1)) (c:=[]) (fun a=>prD (a,a+1)) ?_ (by rw [zS];simp only [SZ];lia) rfl fun a _=>rfl
    rw [←zz];have sm:qe (m-1)=true:=by simp [qe];lia
    have sb:op2 .sub (.int m) (.int 1)=.ok (.int (m-1)):=rfl;dsimp only [LS];generalize wb m ts=WB at *;generalize D.lst (ns.map D.int)=NS at *;simp [KG.Z,i0,sb,sm]
   have l7:((rng (m-1)).map fun a=>(a,a+1)).length≤7:=by rw [List.length_map,zS];lia
   have gm:=qpn g;generalize hI:((rng (m-1)).map fun a=>(a,a+1))=I at *;have b1':b1 .tuple [.lst (I.map prD)]=.ok (tp I):=rfl;have ad:op2 .add (tp ts) (tp I)=.ok (tp (ts++I)):=by
    show op2 .add (.tup (ts.map prD)) (.tup (I.map prD))=_;rw [op2,if_pos ⟨rfl,by simp [SZ];lia⟩,←List.map_append]
   have t1:evE w (.bi .tuple (.cons (.comp (.rng (.op .sub (.ix (.var 2) (.con (.int 0))) (.con (.int 1)))) [none,none] (.nm 1) .yes (.tup (.cons (.var 1) (.cons (.op .add (.var 1) (.con (.int 1))) .nil)))) .nil)) (LS ns (some (.int c)) (some (wb m ts)) v3)=.ok (tp I):=by
    rw [qr,zx,hc];simp only [R.bind_ok,zx];exact b1'
   have t0:evE w (.ix (.var 2) (.con (.int 1))) (LS ns (some (.int c)) (some (wb m ts)) v3)=.ok (tp ts):=rfl;refine zr (σ:=LS ns (some (.int c)) (some (wb m ts)) (some (tp (ts++I)))) (by
    rw [zL,qY,t0,t1];simp only [R.bind_ok];rw [ad];rfl) ?_
   have ss:=qmO (ts++I) (by simp;lia);generalize zG (uq (ts++I))=us at *;have t2:evE w (.sset false (.var 3)) (LS ns (some (.int c)) (some (wb m ts)) (some (tp (ts++I))))=.ok (.lst (us.map prD)):=by
    rw [qG];exact ss
   refine zr (σ:=LS ns (some (.int c)) (some (wb m us)) (some (tp (ts++I)))) (by
    have b2:b1 .tuple [.lst (us.map prD)]=.ok (.tup (us.map prD)):=rfl;show evS w (.set (.nm 2) (.tup (.cons (.ix (.var 2) (.con (.int 0))) (.cons (.bi .tuple (.cons (.sset false (.var 3)) .nil)) .nil)))) _=_;dsimp only [LS]at t2 ⊢;clear t0 t1 hc;generalize wb m ts=WB at *;generalize tp (ts++I)=TI at *;generalize D.lst (ns.map D.int)=NS at *;generalize D.lst (us.map prD)=US at *;generalize hE:EV.E.sset false (.var 3)=SE at *;simp [KG.Z,i0,t2,b2]) (zI ⟨us,_,gm,rfl⟩)
  ·rintro σ ⟨us,v3,gu,rfl⟩;have cr:=hr m us gu;refine zr (σ:=LS ns (some (.int c)) (some (wb m us)) v3) (by
    dsimp only [LS];generalize wb m us=WB at *;generalize D.lst (ns.map D.int)=NS at *;simp [KG.Z,cr]) (zI ⟨ms,_,_,_,rfl,rfl⟩)
 ·rintro σ ⟨ms,v1,v2,v3,e,rfl⟩;exact qdr (d:=.bl true) rfl rfl
noncomputable def depth:Nat:=11
theorem qpl{F:Str→List D→R D}(ns:List Int)(h:Ends (fun _=>False) (fun d=>d=.bl true) (qq ⟨F,p.glb,p.sub,p.cat⟩ qfx.body (LS ns none none none))):qat ⟨F,p.glb,p.sub,p.cat⟩ qfx [.lst (ns.map D.int)]=.ok (.bl true):=by
 obtain⟨d,e,rfl⟩:=qrq (w:=⟨F,p.glb,p.sub,p.cat⟩) (f:=qfx) (ds:=[.lst (ns.map D.int)]) rfl rfl h;exact e
theorem qpd{F:Str→List D→R D}(hF:F=qc p 10)(ns:List Int)(hn:ns.length≤63):qat ⟨F,p.glb,p.sub,p.cat⟩ qfx [.lst (ns.map D.int)]=.ok (.bl true):=by
 refine qpl ns (qmS (w:=⟨F,p.glb,p.sub,p.cat⟩) ns hn ?_ ?_ ?_ ?_)<;>rw [hF]
 ·exact qnF Dr._law_cell_at (k:=9) ns
 ·exact fun c j=>qkc Dr._law_stir (k:=9) c j
 ·exact fun c=>qpP Dr (k:=8) 8 c (by decide)
 ·exact fun m ts g=>qlZ (k:=0) g
theorem qmB:∀ns:List Int,ns.length≤63→qc p depth "law" [.lst (ns.map D.int)]=.ok (.bl true):=by
 intro ns hn;rw [show depth=10+1 from rfl,qZ qrW];exact qpd rfl ns hn
end K24
namespace K24
open PySem PySem.Spec PyProof.Rows L2 EV
theorem qon:∀e∈tab,cFn G (qeF us oth) e.own e.fr e.st=some e.fn:=by
 intro e he;simp only [tab,List.mem_cons,List.not_mem_nil,or_false]at he;rcases he with rfl|rfl|rfl|rfl|rfl|rfl|rfl|rfl|rfl|rfl|rfl|rfl|rfl|rfl|rfl|rfl|rfl|rfl|rfl|rfl|rfl|rfl|rfl|rfl|rfl|rfl|rfl|rfl|rfl|rfl|rfl|rfl<;>kernel_rfl
theorem qqR:∀e∈us,e∈tab:=by
 intro e he;cases he
theorem qui:∀e∈us,qrm (qdw oth) e.own e.fr e.st=some e.fn:=by
 intro e he;cases he
theorem nd:(tab.map (·.x)).Nodup:=by decide +kernel
section
variable{K:PySem.W.Frag}{h:Heap}{mg:Str→Option Value}{f0:Addr}(d0:WB.Dd K "is_whole" (top 6) f0){f1:Addr}(d1:WB.Dd K "is_between" (top 7) f1){f2:Addr}(d2:WB.Dd K "is_pair" (top 8) f2){f3:Addr}(d3:WB.Dd K "rises" (top 9) f3){f4:Addr}(d4:WB.Dd K "is_web" (top 12) f4){f5:Addr}(d5:WB.Dd K "is_tie" (top 13) f5){f6:Addr}(d6:WB.Dd K "need_web" (top 14) f6){f7:Addr}(d7:WB.Dd K "is_place" (top 15) f7){f8:Addr}(d8:WB.Dd K "hoods" (top 16) f8){f9:Addr}(d9:WB.Dd K "hood_of" (top 17) f9){f10:Addr}(d10:WB.Dd K "are_tied" (top 18) f10){f11:Addr}(d11:WB.Dd K "is_some" (top 20) f11){f12:Addr}(d12:WB.Dd K "need_some" (top 21) f12){f13:Addr}(d13:WB.Dd K "need_all" (top 22) f13){f14:Addr}(d14:WB.Dd K "unheld" (top 23) f14){f15:Addr}(d15:WB.Dd K "spare" (top 24) f15){f16:Addr}(d16:WB.Dd K "mark_of" (top 25) f16){f17:Addr}(d17:WB.Dd K "marks_of" (top 26) f17){f18:Addr}(d18:WB.Dd K "places_marked" (top 27) f18){f19:Addr}(d19:WB.Dd K "spare_by" (top 28) f19){f20:Addr}(d20:WB.Dd K "leaned" (top 30) f20){f21:Addr}(d21:WB.Dd K "without" (top 31) f21){f22:Addr}(d22:WB.Dd K "two_parts" (top 33) f22){f23:Addr}(d23:WB.Dd K "_law_cell_at" (top 35) f23){f24:Addr}(d24:WB.Dd K "_law_stir" (top 36) f24){f25:Addr}(d25:WB.Dd K "_law_web" (top 37) f25){f26:Addr}(d26:WB.Dd K "_law_masks" (top 38) f26){f27:Addr}(d27:WB.Dd K "_law_some" (top 39) f27){f28:Addr}(d28:WB.Dd K "_law_held" (top 40) f28){f29:Addr}(d29:WB.Dd K "_law_lean" (top 41) f29){f30:Addr}(d30:WB.Dd K "_law_right" (top 42) f30){f31:Addr}(d31:WB.Dd K "law" (top 43) f31)
include d0 d1 d2 d3 d4 d5 d6 d7 d8 d9 d10 d11 d12 d13 d14 d15 d16 d17 d18 d19 d20 d21 d22 d23 d24 d25 d26 d27 d28 d29 d30 d31
theorem qqY:∀e∈tab,qfo K G e:=by
 intro e he;simp only [tab,List.mem_cons,List.not_mem_nil,or_false]at he;rcases he with rfl|rfl|rfl|rfl|rfl|rfl|rfl|rfl|rfl|rfl|rfl|rfl|rfl|rfl|rfl|rfl|rfl|rfl|rfl|rfl|rfl|rfl|rfl|rfl|rfl|rfl|rfl|rfl|rfl|rfl|rfl|rfl<;>refine⟨⟨_,by assumption⟩,fun _ _ _ _ _ _ us hl=>?_⟩<;>first|(obtain⟨_,rfl⟩:=WB.qqj hl;rfl)|(obtain⟨_,_,rfl⟩:=WB.qso hl;rfl)|(obtain⟨_,_,_,rfl⟩:=WB.qtX hl;rfl)
omit d0 d1 d2 d3 d4 d5 d6 d7 d8 d9 d10 d11 d12 d13 d14 d15 d16 d17 d18 d19 d20 d21 d22 d23 d24 d25 d26 d27 d28 d29 d30 d31
theorem qeD{x:Str}{k:GK}(h:oth.lookup x=some k):∃y∈oth,x=y.1∧k=y.2:=by
 generalize oth=l at h ⊢
 induction l with
 |nil=>cases h
 |cons a r ih=>
  rw [List.lookup_cons]at h;split at h
  ·rename_i q;cases h;exact⟨a,List.mem_cons_self,eq_of_beq q,rfl⟩
  ·obtain⟨y,h1,h2⟩:=ih h;exact⟨y,List.mem_cons_of_mem _ h1,h2⟩
theorem qsu{K:PySem.W.Frag}{C0:Addr}(k0:PySem.W.nsIn K mainGlobals "NoWeb" = some (some (.ref C0)))(x0:PySem.W.excIn K C0 qel "ValueError.__new__" = true){C1:Addr}(k1:PySem.W.nsIn K mainGlobals "NoPlaces" = some (some (.ref C1)))(x1:PySem.W.excIn K C1 qel "ValueError.__new__" = true){C2:Addr}(k2:PySem.W.nsIn K mainGlobals "NotAll" = some (some (.ref C2))){tk0:Tok}(u0:PySem.W.nsIn K mainGlobals "MOST" = some (some (.int 8 tk0)))(z0:PySem.W.nsIn K mainGlobals "len" = some none)(z1:PySem.W.nsIn K mainGlobals "tuple" = some none)(z2:PySem.W.nsIn K mainGlobals "int" = some none)(z3:PySem.W.nsIn K mainGlobals "bool" = some none)(z4:PySem.W.nsIn K mainGlobals "set" = some none)(z5:PySem.W.nsIn K mainGlobals "sorted" = some none)(z6:PySem.W.nsIn K mainGlobals "all" = some none)(z7:PySem.W.nsIn K mainGlobals "any" = some none)(z8:PySem.W.nsIn K mainGlobals "min" = some none)(z9:PySem.W.nsIn K mainGlobals "max" = some none)(z10:PySem.W.nsIn K mainGlobals "range" = some none)(z11:PySem.W.nsIn K mainGlobals "enumerate" = some none)(z12:PySem.W.nsIn K mainGlobals "isinstance" = some none):∀x k,oth.lookup x=some k→qqh K vals x k:=by
 intro x k h;obtain⟨y,h1,rfl,rfl⟩:=qeD h;simp only [oth,List.mem_cons,List.not_mem_nil,or_false]at h1;rcases h1 with rfl|rfl|rfl|rfl|rfl|rfl|rfl|rfl|rfl|rfl|rfl|rfl|rfl|rfl|rfl|rfl|rfl
 ·exact⟨_,k0,x0⟩
 ·exact⟨_,k1,x1⟩
 ·exact⟨_,k2⟩
 ·exact⟨_,.int 8,.int 8,u0,⟨_,rfl⟩,rfl,fun g H _=>.int _⟩
 ·exact⟨z0,rfl,_,rfl⟩
 ·exact⟨z1,by decide +kernel,by simp,by simp [b1N,b1V]⟩
 ·exact⟨z2,by decide +kernel,by simp,by simp [b1N,b1V]⟩
 ·exact⟨z3,by decide +kernel,by simp,by simp [b1N,b1V]⟩
 ·exact⟨z4,by decide +kernel⟩
 ·exact⟨z5,rfl,_,rfl⟩
 ·exact⟨z6,rfl,_,rfl⟩
 ·exact⟨z7,rfl,_,rfl⟩
 ·exact⟨z8,rfl,_,rfl⟩
 ·exact⟨z9,rfl,_,rfl⟩
 ·exact⟨z10,rfl⟩
 ·exact⟨z11,rfl⟩
 ·exact⟨z12,rfl⟩
theorem qqV:∀x fr,oth.lookup x≠some (.fn fr):=by
 intro x fr h;obtain⟨y,h1,rfl,h2⟩:=qeD h;simp only [oth,List.mem_cons,List.not_mem_nil,or_false]at h1;rcases h1 with rfl|rfl|rfl|rfl|rfl|rfl|rfl|rfl|rfl|rfl|rfl|rfl|rfl|rfl|rfl|rfl|rfl<;>cases h2
theorem qoB:∀x,(oth.lookup x=some .exc∨oth.lookup x=some .exk)→([Str.ofString "NoWeb",Str.ofString "NoPlaces",Str.ofString "NotAll"]:List Str).contains x=true:=by
 intro x h;rcases h with h|h<;>obtain⟨y,h1,rfl,h2⟩:=qeD h<;>simp only [oth,List.mem_cons,List.not_mem_nil,or_false]at h1<;>rcases h1 with rfl|rfl|rfl|rfl|rfl|rfl|rfl|rfl|rfl|rfl|rfl|rfl|rfl|rfl|rfl|rfl|rfl<;>first|(cases h2;done)|decide +kernel
theorem qrs{K:PySem.W.Frag}{C0:Addr}(k0:PySem.W.nsIn K mainGlobals "NoWeb" = some (some (.ref C0))){C1:Addr}(k1:PySem.W.nsIn K mainGlobals "NoPlaces" = some (some (.ref C1))){C2:Addr}(k2:PySem.W.nsIn K mainGlobals "NotAll" = some (some (.ref C2)))  : ∀y∈qbp,∃C D,PySem.W.nsIn K mainGlobals y.1=some (some (.ref C))∧PySem.W.nsIn K mainGlobals y.2=some (some (.ref D))∧PySem.W.exmOne K (.ref C) (.ref D)=some true:=by
 intro y h1;simp only [qbp,List.mem_cons,List.not_mem_nil,or_false]at h1
 skip
theorem qqC{K:PySem.W.Frag}{C0:Addr}(k0:PySem.W.nsIn K mainGlobals "NoWeb" = some (some (.ref C0))){C1:Addr}(k1:PySem.W.nsIn K mainGlobals "NoPlaces" = some (some (.ref C1))){C2:Addr}(k2:PySem.W.nsIn K mainGlobals "NotAll" = some (some (.ref C2)))  : ∀y∈subs,qob K [Str.ofString "NoWeb",Str.ofString "NoPlaces",Str.ofString "NotAll"] y:=by
 intro y h1;cases h1
include d0 d1 d2 d3 d4 d5 d6 d7 d8 d9 d10 d11 d12 d13 d14 d15 d16 d17 d18 d19 d20 d21 d22 d23 d24 d25 d26 d27 d28 d29 d30 d31
theorem all_mk(X:K.In h)(N:h.Ns mainGlobals mg){C0:Addr}(k0:PySem.W.nsIn K mainGlobals "NoWeb" = some (some (.ref C0)))(x0:PySem.W.excIn K C0 qel "ValueError.__new__" = true){C1:Addr}(k1:PySem.W.nsIn K mainGlobals "NoPlaces" = some (some (.ref C1)))(x1:PySem.W.excIn K C1 qel "ValueError.__new__" = true){C2:Addr}(k2:PySem.W.nsIn K mainGlobals "NotAll" = some (some (.ref C2))){tk0:Tok}(u0:PySem.W.nsIn K mainGlobals "MOST" = some (some (.int 8 tk0)))(z0:PySem.W.nsIn K mainGlobals "len" = some none)(z1:PySem.W.nsIn K mainGlobals "tuple" = some none)(z2:PySem.W.nsIn K mainGlobals "int" = some none)(z3:PySem.W.nsIn K mainGlobals "bool" = some none)(z4:PySem.W.nsIn K mainGlobals "set" = some none)(z5:PySem.W.nsIn K mainGlobals "sorted" = some none)(z6:PySem.W.nsIn K mainGlobals "all" = some none)(z7:PySem.W.nsIn K mainGlobals "any" = some none)(z8:PySem.W.nsIn K mainGlobals "min" = some none)(z9:PySem.W.nsIn K mainGlobals "max" = some none)(z10:PySem.W.nsIn K mainGlobals "range" = some none)(z11:PySem.W.nsIn K mainGlobals "enumerate" = some none)(z12:PySem.W.nsIn K mainGlobals "isinstance" = some none)   : Ground p (gOf K (tab.map (·.x)) [Str.ofString "NoWeb",Str.ofString "NoPlaces",Str.ofString "NotAll"]) G (qeF us oth) (qdw oth) mg∧qfo K G qen:=
 have A:=qqY d0 d1 d2 d3 d4 d5 d6 d7 d8 d9 d10 d11 d12 d13 d14 d15 d16 d17 d18 d19 d20 d21 d22 d23 d24 d25 d26 d27 d28 d29 d30 d31
 ⟨qlf X N rfl nd (qsu k0 x0 k1 x1 k2 u0 z0 z1 z2 z3 z4 z5 z6 z7 z8 z9 z10 z11 z12) qqV qqR qui qon A _ (qrs k0 k1 k2) qoB (qqC k0 k1 k2 ),A qen (by simp [tab])⟩
end
theorem walk{l:PySem.W.OpenLaw}{q:Program}{loose:List Str}{XP:(Str→Option Value)→Heap→Prop}{YP:World→Heap→Prop}{d:DefRec}{K:Params→PySem.W.Frag}(hn:l.most=some 63)(hdf:d.params.defaults=[])(hd:d.name = "law")(hY:∀(w:World) (h:Heap),YP w h→(K w.params).In h)
  (hG:∀(w:World) (mg:Str→Option Value) (h:Heap),(K w.params).In h→h.Ns mainGlobals mg→Ground p (gOf (K w.params) (tab.map (·.x)) [Str.ofString "NoWeb",Str.ofString "NoPlaces",Str.ofString "NotAll"]) G (qeF us oth) (qdw oth) mg∧qfo (K w.params) G qen):PySem.W.WalkO q loose XP YP l.row.toRowW d [] (fun f vs=>PySem.call f vs):=
 qsK (e:=qen) (k:=depth) hn hdf hd ⟨rfl,by decide,by decide⟩ hY (by simp [tab]) nd rfl rfl (by kernel_rfl) hG (qon qen (by simp [tab])) qmB
end K24
end
open PySem PySem.W PyProof.Rows
namespace PySem.W.Fast
def tw11260150344623753648:Nat:=0
theorem te11260150344623753648:tw11260150344623753648=0:=rfl
def tw16022274888071801251:Nat:=0
theorem te16022274888071801251:tw16022274888071801251=0:=rfl
def tw17735578854407532594:Nat:=0
theorem te17735578854407532594:tw17735578854407532594=0:=rfl
def tw13312830375870072545:Nat:=0
theorem te13312830375870072545:tw13312830375870072545=0:=rfl
def tw15913973431310587979:Nat:=0
theorem te15913973431310587979:tw15913973431310587979=0:=rfl
def tw6696567443464776499:Nat:=0
theorem te6696567443464776499:tw6696567443464776499=0:=rfl
def tw7362895661581216286:Nat:=0
theorem te7362895661581216286:tw7362895661581216286=0:=rfl
def tw2413444027079237032:Nat:=0
theorem te2413444027079237032:tw2413444027079237032=0:=rfl
def tw8973237501201795524:Nat:=0
theorem te8973237501201795524:tw8973237501201795524=0:=rfl
def tw17510820104186981896:Nat:=0
theorem te17510820104186981896:tw17510820104186981896=0:=rfl
def tw3083813356975883904:Nat:=0
theorem te3083813356975883904:tw3083813356975883904=0:=rfl
def tw12988181698434301348:Nat:=0
theorem te12988181698434301348:tw12988181698434301348=0:=rfl
def tw14086059056502327628:Nat:=0
theorem te14086059056502327628:tw14086059056502327628=0:=rfl
def tw11126065273190293074:Nat:=0
theorem te11126065273190293074:tw11126065273190293074=0:=rfl
def tw7310901053218045134:Nat:=0
theorem te7310901053218045134:tw7310901053218045134=0:=rfl
def tw617748831306621999:Nat:=0
theorem te617748831306621999:tw617748831306621999=0:=rfl
def tw9654207243815353130:Nat:=0
theorem te9654207243815353130:tw9654207243815353130=0:=rfl
def tw17685946885347052155:Nat:=0
theorem te17685946885347052155:tw17685946885347052155=0:=rfl
def tw8148191985098499476:Nat:=0
theorem te8148191985098499476:tw8148191985098499476=0:=rfl
def tw3036176936246623786:Nat:=0
theorem te3036176936246623786:tw3036176936246623786=0:=rfl
def tw2538860907002308030:Nat:=0
theorem te2538860907002308030:tw2538860907002308030=0:=rfl
def tw6726433131035893728:Nat:=0
theorem te6726433131035893728:tw6726433131035893728=0:=rfl
def tw14744545052812516298:Nat:=0
theorem te14744545052812516298:tw14744545052812516298=0:=rfl
def tw7709375799544972669:Nat:=0
theorem te7709375799544972669:tw7709375799544972669=0:=rfl
def tw10139398718028209693:Nat:=0
theorem te10139398718028209693:tw10139398718028209693=0:=rfl
def tw9215879424612287716:Nat:=0
theorem te9215879424612287716:tw9215879424612287716=0:=rfl
def tw14353531120335976229:Nat:=0
theorem te14353531120335976229:tw14353531120335976229=0:=rfl
def tw17586000695689657312:Nat:=0
theorem te17586000695689657312:tw17586000695689657312=0:=rfl
def tw16981011845128491957:Nat:=0
theorem te16981011845128491957:tw16981011845128491957=0:=rfl
def tw14671457624521879818:Nat:=0
theorem te14671457624521879818:tw14671457624521879818=0:=rfl
def tw5165957839687126866:Nat:=0
theorem te5165957839687126866:tw5165957839687126866=0:=rfl
def tw9051600677066081151:Nat:=0
theorem te9051600677066081151:tw9051600677066081151=0:=rfl
def tw2659324587941151618:Nat:=0
theorem te2659324587941151618:tw2659324587941151618=0:=rfl
def tw14453795749650897007:Nat:=0
theorem te14453795749650897007:tw14453795749650897007=0:=rfl
def tw784708294737877531:Nat:=0
theorem te784708294737877531:tw784708294737877531=0:=rfl
def tw12512571793416591748:Nat:=0
theorem te12512571793416591748:tw12512571793416591748=0:=rfl
def tw9092913227090951727:Nat:=0
theorem te9092913227090951727:tw9092913227090951727=0:=rfl
def tw5812121469072825766:Nat:=0
theorem te5812121469072825766:tw5812121469072825766=0:=rfl
def tw8019708922928852034:Nat:=0
theorem te8019708922928852034:tw8019708922928852034=0:=rfl
def tw12007905809876536265:Nat:=0
theorem te12007905809876536265:tw12007905809876536265=0:=rfl
def tw3063535454521918642:Nat:=0
theorem te3063535454521918642:tw3063535454521918642=0:=rfl
def tw14953587069702784475:Nat:=0
theorem te14953587069702784475:tw14953587069702784475=0:=rfl
def tw15596041896274883962:Nat:=0
theorem te15596041896274883962:tw15596041896274883962=0:=rfl
def tw14937947860964605940:Nat:=0
theorem te14937947860964605940:tw14937947860964605940=0:=rfl
def tw2419889205788679725:Nat:=0
theorem te2419889205788679725:tw2419889205788679725=0:=rfl
def tw7403524787093888297:Nat:=0
theorem te7403524787093888297:tw7403524787093888297=0:=rfl
def tw6161847649628001310:Nat:=0
theorem te6161847649628001310:tw6161847649628001310=0:=rfl
def tw9529076179768942523:Nat:=0
theorem te9529076179768942523:tw9529076179768942523=0:=rfl
def tw13667612197281011135:Nat:=0
theorem te13667612197281011135:tw13667612197281011135=0:=rfl
def tw13589813400975503018:Nat:=0
theorem te13589813400975503018:tw13589813400975503018=0:=rfl
def tw5655301294353721654:Nat:=0
theorem te5655301294353721654:tw5655301294353721654=0:=rfl
def tw2000090937872605299:Nat:=0
theorem te2000090937872605299:tw2000090937872605299=0:=rfl
def tw2745663726921652091:Nat:=0
theorem te2745663726921652091:tw2745663726921652091=0:=rfl
def tw8783905474187591216:Nat:=0
theorem te8783905474187591216:tw8783905474187591216=0:=rfl
def tw13971629115099213425:Nat:=0
theorem te13971629115099213425:tw13971629115099213425=0:=rfl
def tw1756899547824498388:Nat:=0
theorem te1756899547824498388:tw1756899547824498388=0:=rfl
def tw10281299776745782613:Nat:=0
theorem te10281299776745782613:tw10281299776745782613=0:=rfl
def tw14717670940679007243:Nat:=0
theorem te14717670940679007243:tw14717670940679007243=0:=rfl
def tw10931423571559272472:Nat:=0
theorem te10931423571559272472:tw10931423571559272472=0:=rfl
def tw11135404766394566315:Nat:=0
theorem te11135404766394566315:tw11135404766394566315=0:=rfl
def tw7862021852430205522:Nat:=0
theorem te7862021852430205522:tw7862021852430205522=0:=rfl
def tw513842004560480638:Nat:=0
theorem te513842004560480638:tw513842004560480638=0:=rfl
def tw7912672774400697439:Nat:=0
theorem te7912672774400697439:tw7912672774400697439=0:=rfl
def tw10093789953390801298:Nat:=0
theorem te10093789953390801298:tw10093789953390801298=0:=rfl
def tw5499800819964971323:Nat:=0
theorem te5499800819964971323:tw5499800819964971323=0:=rfl
def tw11201558589933257003:Nat:=0
theorem te11201558589933257003:tw11201558589933257003=0:=rfl
def tw7614369219451477110:Nat:=0
theorem te7614369219451477110:tw7614369219451477110=0:=rfl
def tw9118640021358279151:Nat:=0
theorem te9118640021358279151:tw9118640021358279151=0:=rfl
def tw8469508019549478019:Nat:=0
theorem te8469508019549478019:tw8469508019549478019=0:=rfl
def tw7128991453449726782:Nat:=0
theorem te7128991453449726782:tw7128991453449726782=0:=rfl
def tw2276408466627460066:Nat:=0
theorem te2276408466627460066:tw2276408466627460066=0:=rfl
def tw3306746977713617156:Nat:=0
theorem te3306746977713617156:tw3306746977713617156=0:=rfl
def tw4886820573430413159:Nat:=0
theorem te4886820573430413159:tw4886820573430413159=0:=rfl
def tw360918598295457764:Nat:=0
theorem te360918598295457764:tw360918598295457764=0:=rfl
def tw12686496181092153050:Nat:=0
theorem te12686496181092153050:tw12686496181092153050=0:=rfl
def tw7314249437891378186:Nat:=0
theorem te7314249437891378186:tw7314249437891378186=0:=rfl
def tw13403930937543395881:Nat:=0
theorem te13403930937543395881:tw13403930937543395881=0:=rfl
def tw16985843332817573907:Nat:=0
theorem te16985843332817573907:tw16985843332817573907=0:=rfl
def tw14794538735114302031:Nat:=0
theorem te14794538735114302031:tw14794538735114302031=0:=rfl
def tw14096464979538111756:Nat:=0
theorem te14096464979538111756:tw14096464979538111756=0:=rfl
def tw4444505354597138540:Nat:=0
theorem te4444505354597138540:tw4444505354597138540=0:=rfl
def tw942896514867830776:Nat:=0
theorem te942896514867830776:tw942896514867830776=0:=rfl
def tw12862892257694180077:Nat:=0
theorem te12862892257694180077:tw12862892257694180077=0:=rfl
def tw13476994932259699020:Nat:=0
theorem te13476994932259699020:tw13476994932259699020=0:=rfl
def tw3659218570944661767:Nat:=0
theorem te3659218570944661767:tw3659218570944661767=0:=rfl
def tw4816619694449317189:Nat:=0
theorem te4816619694449317189:tw4816619694449317189=0:=rfl
def tw9558314673673710898:Nat:=0
theorem te9558314673673710898:tw9558314673673710898=0:=rfl
def tw6108578964450039401:Nat:=0
theorem te6108578964450039401:tw6108578964450039401=0:=rfl
def tw5822157621902205200:Nat:=0
theorem te5822157621902205200:tw5822157621902205200=0:=rfl
def tw852912717863402715:Nat:=0
theorem te852912717863402715:tw852912717863402715=0:=rfl
def tw17727834703379460938:Nat:=0
theorem te17727834703379460938:tw17727834703379460938=0:=rfl
def tw10944659236617524369:Nat:=0
theorem te10944659236617524369:tw10944659236617524369=0:=rfl
def tw4230137478064098148:Nat:=0
theorem te4230137478064098148:tw4230137478064098148=0:=rfl
def tw5584673160816967571:Nat:=0
theorem te5584673160816967571:tw5584673160816967571=0:=rfl
def tw9236367878029094252:Nat:=0
theorem te9236367878029094252:tw9236367878029094252=0:=rfl
def tw10613875157952940224:Nat:=0
theorem te10613875157952940224:tw10613875157952940224=0:=rfl
def tw1990326328028680293:Nat:=0
theorem te1990326328028680293:tw1990326328028680293=0:=rfl
def tw5025804213324064135:Nat:=0
theorem te5025804213324064135:tw5025804213324064135=0:=rfl
def tw11798405439026964267:Nat:=0
theorem te11798405439026964267:tw11798405439026964267=0:=rfl
def tw7853339991380897276:Nat:=0
theorem te7853339991380897276:tw7853339991380897276=0:=rfl
def tw13222149053474297590:Nat:=0
theorem te13222149053474297590:tw13222149053474297590=0:=rfl
def tw8329061341527830044:Nat:=0
theorem te8329061341527830044:tw8329061341527830044=0:=rfl
def tw5900214691774413331:Nat:=0
theorem te5900214691774413331:tw5900214691774413331=0:=rfl
def tw6244380347355919063:Nat:=0
theorem te6244380347355919063:tw6244380347355919063=0:=rfl
def tw15097120707199577362:Nat:=0
theorem te15097120707199577362:tw15097120707199577362=0:=rfl
def tw10211723643542733322:Nat:=0
theorem te10211723643542733322:tw10211723643542733322=0:=rfl
def tw3451732588827606040:Nat:=0
theorem te3451732588827606040:tw3451732588827606040=0:=rfl
def tw4963395757316578015:Nat:=0
theorem te4963395757316578015:tw4963395757316578015=0:=rfl
def tw12728711230129178172:Nat:=0
theorem te12728711230129178172:tw12728711230129178172=0:=rfl
def tw6281001951665183465:Nat:=0
theorem te6281001951665183465:tw6281001951665183465=0:=rfl
def tw1099774880496767433:Nat:=0
theorem te1099774880496767433:tw1099774880496767433=0:=rfl
def tw3215055553614619084:Nat:=0
theorem te3215055553614619084:tw3215055553614619084=0:=rfl
def tw15556553914159198352:Nat:=0
theorem te15556553914159198352:tw15556553914159198352=0:=rfl
def tw15204513243884601651:Nat:=0
theorem te15204513243884601651:tw15204513243884601651=0:=rfl
def tw2851475968756511414:Nat:=0
theorem te2851475968756511414:tw2851475968756511414=0:=rfl
def tw6946644131134214400:Nat:=0
theorem te6946644131134214400:tw6946644131134214400=0:=rfl
def tw15179833254518936245:Nat:=0
theorem te15179833254518936245:tw15179833254518936245=0:=rfl
def tw8615759481842705195:Nat:=0
theorem te8615759481842705195:tw8615759481842705195=0:=rfl
def tw3807168762393493989:Nat:=0
theorem te3807168762393493989:tw3807168762393493989=0:=rfl
def tw10382415643979956535:Nat:=0
theorem te10382415643979956535:tw10382415643979956535=0:=rfl
def tw15395215140327317246:Nat:=0
theorem te15395215140327317246:tw15395215140327317246=0:=rfl
def tw12444396733729014575:Nat:=0
theorem te12444396733729014575:tw12444396733729014575=0:=rfl
def tw11545550160393718485:Nat:=0
theorem te11545550160393718485:tw11545550160393718485=0:=rfl
def tw18444706989883049255:Nat:=0
theorem te18444706989883049255:tw18444706989883049255=0:=rfl
def tw13823681924898596579:Nat:=0
theorem te13823681924898596579:tw13823681924898596579=0:=rfl
def tw12144007018378866857:Nat:=0
theorem te12144007018378866857:tw12144007018378866857=0:=rfl
def tw7524715939822435359:Nat:=0
theorem te7524715939822435359:tw7524715939822435359=0:=rfl
def tw13048244885464530892:Nat:=0
theorem te13048244885464530892:tw13048244885464530892=0:=rfl
def tw15434611822292542604:Nat:=0
theorem te15434611822292542604:tw15434611822292542604=0:=rfl
def tw1490757622183041306:Nat:=0
theorem te1490757622183041306:tw1490757622183041306=0:=rfl
def tw9901591792710740754:Nat:=0
theorem te9901591792710740754:tw9901591792710740754=0:=rfl
def tw13419223633774722729:Nat:=0
theorem te13419223633774722729:tw13419223633774722729=0:=rfl
def tw11224549326978833583:Nat:=0
theorem te11224549326978833583:tw11224549326978833583=0:=rfl
def tw14601776918435046224:Nat:=0
theorem te14601776918435046224:tw14601776918435046224=0:=rfl
def tw13777108265701624010:Nat:=0
theorem te13777108265701624010:tw13777108265701624010=0:=rfl
def tw7686457793625849720:Nat:=0
theorem te7686457793625849720:tw7686457793625849720=0:=rfl
def tw11891622456853435959:Nat:=0
theorem te11891622456853435959:tw11891622456853435959=0:=rfl
def tw1676444139922364604:Nat:=0
theorem te1676444139922364604:tw1676444139922364604=0:=rfl
def tw4803082657552147202:Nat:=0
theorem te4803082657552147202:tw4803082657552147202=0:=rfl
def tw7787004995758204701:Nat:=0
theorem te7787004995758204701:tw7787004995758204701=0:=rfl
def tw4722066294383452276:Nat:=0
theorem te4722066294383452276:tw4722066294383452276=0:=rfl
def tw7238196636168985332:Nat:=0
theorem te7238196636168985332:tw7238196636168985332=0:=rfl
def tw15225642555945832830:Nat:=0
theorem te15225642555945832830:tw15225642555945832830=0:=rfl
def tw15725982637026493563:Nat:=0
theorem te15725982637026493563:tw15725982637026493563=0:=rfl
def tw13219016426148158241:Nat:=0
theorem te13219016426148158241:tw13219016426148158241=0:=rfl
def tw5424963861784461714:Nat:=0
theorem te5424963861784461714:tw5424963861784461714=0:=rfl
def tw7173170549169790778:Nat:=0
theorem te7173170549169790778:tw7173170549169790778=0:=rfl
def tw2216332889468264493:Nat:=0
theorem te2216332889468264493:tw2216332889468264493=0:=rfl
def tw14513265867327147616:Nat:=0
theorem te14513265867327147616:tw14513265867327147616=0:=rfl
def tw12808942234742439236:Nat:=0
theorem te12808942234742439236:tw12808942234742439236=0:=rfl
end PySem.W.Fast
set_option maxRecDepth 100000 in
set_option maxHeartbeats 0 in
theorem PySem.Challenge.cw_holdplaces_k24_two_parts_that_hold_all_holds : PySem.Challenge.rw_holdplaces_k24_two_parts_that_hold_all.Holds := by
 w_on;o_law;k_head;(case hw=>w_witness2)
 k_fill
 refine K24.walk (l:=PySem.Challenge.rw_holdplaces_k24_two_parts_that_hold_all) rfl rfl rfl (fun w h Y=>PySem.W.kIn_of Y) ?F
 case F=>
  intro w mg h KX N
  refine' K24.all_mk (WB.zo ?_ ?_ ?_ ?_) (WB.zo ?_ ?_ ?_ ?_) (WB.zo ?_ ?_ ?_ ?_) (WB.zo ?_ ?_ ?_ ?_) (WB.zo ?_ ?_ ?_ ?_) (WB.zo ?_ ?_ ?_ ?_) (WB.zo ?_ ?_ ?_ ?_) (WB.zo ?_ ?_ ?_ ?_) (WB.zo ?_ ?_ ?_ ?_) (WB.zo ?_ ?_ ?_ ?_) (WB.zo ?_ ?_ ?_ ?_) (WB.zo ?_ ?_ ?_ ?_) (WB.zo ?_ ?_ ?_ ?_) (WB.zo ?_ ?_ ?_ ?_) (WB.zo ?_ ?_ ?_ ?_) (WB.zo ?_ ?_ ?_ ?_) (WB.zo ?_ ?_ ?_ ?_) (WB.zo ?_ ?_ ?_ ?_) (WB.zo ?_ ?_ ?_ ?_) (WB.zo ?_ ?_ ?_ ?_) (WB.zo ?_ ?_ ?_ ?_) (WB.zo ?_ ?_ ?_ ?_) (WB.zo ?_ ?_ ?_ ?_) (WB.zo ?_ ?_ ?_ ?_) (WB.zo ?_ ?_ ?_ ?_) (WB.zo ?_ ?_ ?_ ?_) (WB.zo ?_ ?_ ?_ ?_) (WB.zo ?_ ?_ ?_ ?_) (WB.zo ?_ ?_ ?_ ?_) (WB.zo ?_ ?_ ?_ ?_) (WB.zo ?_ ?_ ?_ ?_) (WB.zo ?_ ?_ ?_ ?_) KX N ?_ ?_ ?_ ?_ ?_ ?_ ?_ ?_ ?_ ?_ ?_ ?_ ?_ ?_ ?_ ?_ ?_ ?_ ?_
  any_goals k_is
  any_goals k_exc
#print axioms PySem.Challenge.cw_holdplaces_k24_two_parts_that_hold_all_holds
