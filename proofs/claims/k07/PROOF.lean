import PyProof.Rows.All
import Wide.All
import OpenK.AllK
import Wide.FinOn
import Lean
import PyProof.EqAt
import PyProof.EqKinds
import PyProof.TupleCall
import KE.KIntText
import PyProof.StrCalls2
import PyProof.StrLawsTight
import PyProof.StrLawsChain
import PyProof.Rows.Range3
import KE.KTryMore
import PyProof.NsDelKeeps
import PyProof.ExcBaseAll.ValueError
import PySem.Challenge.RW_slowshift_k07_no_places_and_no_sizes
set_option Elab.async false
set_option linter.all false
set_option maxRecDepth 100000
set_option genSizeOf false
set_option genSizeOfSpec false
set_option genInjectivity false
set_option maxHeartbeats 4000000
namespace L2
open PySem PySem.Spec PyProof.Rows
noncomputable abbrev Key:=Sum Int Str
noncomputable def keyIs:Key->Value->Bool
 | .inl k,v=>Value.isInt k v
 | .inr x,v=>Value.isStrOf x v
noncomputable def keyH(w:World):Key->Int
 | .inl k=>hashInt k
 | .inr x=>hashStr w x
theorem keyIs_shape:∀{k:Key}{v:Value},keyIs k v=true->(∃ i t,k=Sum.inl i/\v=Value.int i t)∨(∃ x t,k=Sum.inr x/\v=Value.str x t)
 | .inl i,v,h=>by
   obtain⟨t,e⟩:=Value.isInt_shape (k:=i) (v:=v) h;exact .inl ⟨i,t,rfl,e⟩
 | .inr x,v,h=>by
   obtain⟨t,e⟩:=Value.isStrOf_shape (x:=x) (v:=v) h;exact .inr ⟨x,t,rfl,e⟩
theorem keyIs_int(i:Int)(t:Tok):keyIs (.inl i) (.int i t)=true:=by simp[keyIs,Value.isInt]
theorem keyIs_str(x:Str)(t:Tok):keyIs (.inr x) (.str x t)=true:=by simp[keyIs,Value.isStrOf]
theorem key_ll(a b:Int):decide ((Sum.inl a:Key)=Sum.inl b)=(a == b):=by
 by_cases e:a=b
 · subst e;simp
 have h:¬ (Sum.inl a:Key)=Sum.inl b:=fun q=>e (Sum.inl.inj q);rw[decide_eq_false h];exact(beq_eq_false_iff_ne.mpr e).symm
theorem key_rr(a b:Str):decide ((Sum.inr a:Key)=Sum.inr b)=decide (a=b):=by
 by_cases e:a=b
 · subst e;simp
 have h:¬ (Sum.inr a:Key)=Sum.inr b:=fun q=>e (Sum.inr.inj q);rw[decide_eq_false h,decide_eq_false e]
theorem key_lr(a:Int)(b:Str):decide ((Sum.inl a:Key)=Sum.inr b)=false:=decide_eq_false (fun q=>nomatch q)
theorem key_rl(a:Str)(b:Int):decide ((Sum.inr a:Key)=Sum.inl b)=false:=decide_eq_false (fun q=>nomatch q)
noncomputable def mixKind(prog:Program)(w:World):PySem.KeyKind prog w Key where
 is:=keyIs
 hash:=keyH w
 inj:=fun v a b ha hb=>by
  rcases keyIs_shape ha with ⟨i,t,rfl,rfl⟩ | ⟨x,t,rfl,rfl⟩
  · rcases keyIs_shape hb with ⟨j,u,rfl,e⟩ | ⟨y,u,rfl,e⟩
    · injection e with e1 _;rw[e1]
    exact nomatch e
  rcases keyIs_shape hb with ⟨j,u,rfl,e⟩ | ⟨y,u,rfl,e⟩
  · exact nomatch e
  injection e with e1 _;rw[e1]
 byValue:=fun k v h=>by
  rcases keyIs_shape h with ⟨i,t,rfl,rfl⟩ | ⟨x,t,rfl,rfl⟩ <;> rfl
 pyHash:=fun hv h=>by
  rcases keyIs_shape hv with ⟨i,t,rfl,rfl⟩ | ⟨x,t,rfl,rfl⟩
  · exact wpAny_pyHash_int h
  exact wpAny_pyHash_str h
 eqBool:=fun hu hv h=>by
  rcases keyIs_shape hu with ⟨i,t,rfl,rfl⟩ | ⟨x,t,rfl,rfl⟩
  · rcases keyIs_shape hv with ⟨j,u,rfl,rfl⟩ | ⟨y,u,rfl,rfl⟩
    · rw[key_ll]at h;exact wpAny_eqBool_int h
    rw[key_lr]at h;exact SeqAt.EqAt.int_str i t y u _ _ _ _ h
  rcases keyIs_shape hv with ⟨j,u,rfl,rfl⟩ | ⟨y,u,rfl,rfl⟩
  · rw[key_rl]at h;exact SeqAt.EqAt.str_int x t j u _ _ _ _ h
  rw[key_rr]at h;exact wpAny_eqBool_str h
 «strs»:=fun k x t v h=>by
  rcases keyIs_shape h with ⟨i,u,rfl,e⟩ | ⟨y,u,rfl,e⟩
  · exact nomatch e
  injection e with e1 _;subst e1;cases v <;> rfl
theorem mixKind_int(prog:Program)(w:World)(i:Int)(t:Tok):(mixKind prog w).is (.inl i) (.int i t)=true:=keyIs_int i t
theorem mixKind_str(prog:Program)(w:World)(x:Str)(t:Tok):(mixKind prog w).is (.inr x) (.str x t)=true:=keyIs_str x t
end L2
namespace L2
open PySem PySem.Spec PyProof.Rows
set_option genInjectivity true in
inductive V where
 | non | bl (b:Bool) | int (i:Int) | str (x:Str) | byt (b:Array UInt8) | flt (b:UInt64) | ref (a:Addr) | ty (n:String)
 deriving DecidableEq
noncomputable def RelV:V->Value->Prop
 | .non,u=>u=Value.none
 | .bl b,u=>u=Value.bool b
 | .int i,u=>∃ t,u=Value.int i t
 | .str x,u=>∃ t,u=Value.str x t
 | .byt b,u=>∃ t,u=Value.bytes b t
 | .flt b,u=>∃ t,u=Value.float b t
 | .ref a,u=>u=Value.ref a
 | .ty n,u=>u=Value.type n
noncomputable abbrev Vals:List V->List Value->Prop:=Paired RelV
theorem Vals.length{xs:List V}{us:List Value}(r:Vals xs us):xs.length=us.length:=Paired.length r
theorem Vals.get:∀{xs:List V}{us:List Value}{i:Nat}{x:V},Vals xs us->xs[i]?=some x -> ∃ u,us[i]?=some u/\RelV x u
 | _,_,_,_,.nil,e=>by simp at e
 | _,_,0,_,.cons r _,e=>by simp at e;subst e;exact⟨_,rfl,r⟩
 | _,_,i+1,x,.cons _ t,e=>by
   obtain⟨u,h1,h2⟩:=Vals.get (i:=i) (x:=x) t (by simpa using e)
   exact⟨u,by simpa using h1,h2⟩
theorem Vals.set{x:V}{u:Value}(r:RelV x u):∀{xs:List V}{us:List Value} (i:Nat),Vals xs us->Vals (xs.set i x) (us.set i u)
 | _,_,_,.nil=>.nil
 | _,_,0,.cons _ t=>.cons r t
 | _,_,i+1,.cons q t=>.cons q (Vals.set r i t)
theorem Vals.append:∀{xs ys:List V}{us ws:List Value},Vals xs us->Vals ys ws->Vals (xs++ys) (us++ws)
 | _,_,_,_,.nil,s=>s
 | _,_,_,_,.cons r t,s=>.cons r (Vals.append t s)
theorem Vals.take:∀{xs:List V}{us:List Value} (n:Nat),Vals xs us->Vals (xs.take n) (us.take n)
 | _,_,0,_=>.nil
 | _,_,_+1,.nil=>.nil
 | _,_,n+1,.cons r t=>.cons r (Vals.take n t)
theorem Vals.drop:∀{xs:List V}{us:List Value} (n:Nat),Vals xs us->Vals (xs.drop n) (us.drop n)
 | _,_,0,r=>r
 | _,_,_+1,.nil=>.nil
 | _,_,n+1,.cons _ t=>Vals.drop n t
noncomputable def RelO:Option V->Option Value->Prop
 | some v,some u=>RelV v u
 | none,none=>True
 | _,_=>False
noncomputable def KV{κ:Type}:List (κ × V)->List (κ × Value)->Prop:=Paired fun(p:κ × V) (q:κ × Value)=>p.1=q.1/\RelV p.2 q.2
noncomputable def kV:Key->V
 | .inl i=>.int i
 | .inr x=>.str x
inductive HO where
 | lst (xs:List V)
 | tup (xs:List V)
 | dK (kvs:List (Key×V)) | dT (kvs:List (List Key×V))
 | set (S:Int->Bool) (n:Nat)
 | ins (C dx:Addr) (fs:List (Str×V))
 | own (x:Addr)
 | xd (fs:List (Str×V))
 | met (f x:Addr)
 | rng (lo hi:Int)
 | frz (o:Obj) (u:HO)
 | tbl (ps:Array Value)
 | ext (φ:Heap->Prop)
noncomputable abbrev Hp:=Addr->Option HO
noncomputable def upd(H:Hp)(a:Addr)(o:HO):Hp:=fun b=>if b=a then some o else H b
theorem upd_same{H:Hp}{a:Addr}{o:HO}:upd H a o a=some o:=by unfold upd;rw[if_pos rfl]
theorem upd_ne{H:Hp}{a b:Addr}{o:HO}(h:b≠a):upd H a o b=H b:=by unfold upd;rw[if_neg h]
theorem ne_of{H:Hp}{a b:Addr}{o u:HO}(h:H a=some o)(h':H b=some u)(d:o≠u):a≠b:=by
 intro e;subst e;rw[h]at h';exact d (Option.some.inj h')
theorem ne_of_none{H:Hp}{a b:Addr}{o:HO}(h:H a=some o)(h':H b=none):a≠b:=by
 intro e;subst e;rw[h]at h';cases h'
section
variable(P:Program)(w:World)
noncomputable def ObjOk(H:Hp)(h:Heap)(a:Addr):HO->Prop
 | .lst xs=>xs.length<=sizeLine /\ ∃(its:List Value) (n:Nat),Vals xs its/\h.get? a=some { cls:=.type "list",data:=.seq its.toArray n }
 | .tup xs=>xs.length<=sizeLine /\ ∃ its:List Value,Vals xs its/\IsTup h a its.toArray
 | .dK kvs=>kvs.length<=sizeLine/\(a == sysModules)=false /\ ∃ vs,KV kvs vs/\h.DictOf (mixKind P w) a vs
 | .dT kvs=>kvs.length<=sizeLine/\(a == sysModules)=false /\ ∃ xs:List (List Key×Addr×Value),
  Paired (fun(p:List Key×V) (q:List Key×Addr×Value)=>p.1=q.1/\H q.2.1=some (.tup (p.1.map kV))/\RelV p.2 q.2.2) kvs xs /\
  ∃ o es ep,h.get? a=some o/\o.ExactDict/\o.data=.dict es ep/\es.toList=xs.map (entryOfKey (tupleKind (mixKind P w)))/\(xs.map (·.1)).Nodup
 | .set S n=>h.SetOf (intKind P w) a S n
 | .ins C dx fs=>H dx=some (.own a)/\fs.length<=1000/\dx≠a/\h.get? a=some (W.instObj C dx) /\
  ∃ mA,h.Ns1 dx mA/\(∀ f,RelO (fs.lookup f) (mA f))/\PySem.Within mA (fs.map (·.1))
 | .own _=>∃ o,h.get? a=some o
 | .xd fs=>∃ mA,h.Ns1 a mA /\ ∀ f,RelO (fs.lookup f) (mA f)
 | .rng lo hi=>∃ t u v,h.get? a=some { cls:=.type "range",data:=.fields #[.int lo t,.int hi u,.int 1 v] }
 | .frz o u=>h.get? a=some o/\ObjOk H h a u
 | .tbl ps=>h.get? a=some { cls:=.none,data:=.fields ps }
 | .met f x=>h.get? a=some (W.methodObj (.ref f) (.ref x))
 | .ext φ=>φ h/\(∃ o,h.get? a=some o) /\ ∀ h1 h2:Heap,φ h1->(∀ o,h1.get? a=some o->h2.get? a=some o) -> φ h2
noncomputable def HOk(H:Hp)(h:Heap):Prop:=∀ a o,H a=some o->ObjOk P w H h a o
end
section
variable{P:Program}{w:World}{H H':Hp}{h h':Heap}{a:Addr}{o:HO}
theorem ObjOk.lt(x:ObjOk P w H h a o):a < h.objs.size:=by
 cases o with
 | lst xs=>obtain⟨_,_,_,_,e⟩:=x;exact Heap.lt_size e
 | tup xs=>obtain⟨_,_,_,p⟩:=x;exact p.lt
 | dK kvs=>obtain⟨_,_,_,_,o,_,_,e,_⟩:=x;exact Heap.lt_size e
 | dT kvs=>obtain⟨_,_,_,_,o,_,_,e,_⟩:=x;exact Heap.lt_size e
 | set S n=>obtain⟨o,_,_,_,e,_⟩:=x;exact Heap.lt_size e
 | ins C dx fs=>obtain⟨_,_,_,e,_⟩:=x;exact Heap.lt_size e
 | own y=>obtain⟨_,e⟩:=x;exact Heap.lt_size e
 | xd fs=>obtain⟨_,⟨_,_,_,e,_⟩,_⟩:=x;exact Heap.lt_size e
 | rng lo hi=>obtain⟨_,_,_,e⟩:=x;exact Heap.lt_size e
 | frz ob u=>obtain⟨e,_⟩:=x;exact Heap.lt_size e
 | tbl ps=>exact Heap.lt_size (show h.get? a=some _ from x)
 | met f y=>exact Heap.lt_size (show h.get? a=some _ from x)
 | ext φ=>obtain⟨_,⟨_,e⟩,_⟩:=x;exact Heap.lt_size e
theorem Paired.mapP{α β:Type}{F G:α -> β -> Prop}:∀{l₁:List α}{l₂:List β},Paired F l₁ l₂ -> (∀ a b,F a b->G a b)->Paired G l₁ l₂
 | _,_,.nil,_=>.nil
 | _,_,.cons r t,f=>.cons (f _ _ r) (Paired.mapP t f)
theorem ObjOk.stay(x:ObjOk P w H h a o)(k:∀ b u,(b=a∨H b=some (.own a))->h.get? b=some u->h'.get? b=some u)
 (ho:∀ b,H b=some (.own a)->H' b=some (.own a)) (ht:∀ b xs,H b=some (.tup xs)->H' b=some (.tup xs)):ObjOk P w H' h' a o:=by
 induction o with
 | lst xs=>obtain⟨z,its,n,r,e⟩:=x;exact⟨z,its,n,r,k _ _ (.inl rfl) e⟩
 | tup xs=>obtain⟨z,its,r,ob,e,c⟩:=x;exact⟨z,its,r,ob,k _ _ (.inl rfl) e,c⟩
 | dK kvs=>obtain⟨z,y,vs,r,ob,es,ep,e,c⟩:=x;exact⟨z,y,vs,r,ob,es,ep,k _ _ (.inl rfl) e,c⟩
 | dT kvs=>
   obtain⟨z,y,xs,r,ob,es,ep,e,c⟩:=x;exact⟨z,y,xs,Paired.mapP r fun p q z=>⟨z.1,ht _ _ z.2.1,z.2.2⟩,ob,es,ep,k _ _ (.inl rfl) e,c⟩
 | set S n=>obtain⟨ob,es,ep,t,e,c⟩:=x;exact⟨ob,es,ep,t,k _ _ (.inl rfl) e,c⟩
 | ins C dx fs=>
   obtain⟨d,z,ne,e,mA,⟨od,es,ep,e2,c⟩,r⟩:=x;exact⟨ho _ d,z,ne,k _ _ (.inl rfl) e,mA,⟨od,es,ep,k _ _ (.inr d) e2,c⟩,r⟩
 | own y=>obtain⟨ob,e⟩:=x;exact⟨ob,k _ _ (.inl rfl) e⟩
 | xd fs=>obtain⟨mA,⟨od,es,ep,e,c⟩,r⟩:=x;exact⟨mA,⟨od,es,ep,k _ _ (.inl rfl) e,c⟩,r⟩
 | rng lo hi=>obtain⟨t,u,v,e⟩:=x;exact⟨t,u,v,k _ _ (.inl rfl) e⟩
 | frz ob u ih=>obtain⟨e,q⟩:=x;exact⟨k _ _ (.inl rfl) e,ih q⟩
 | tbl ps=>
   have e:h.get? a=some { cls:=.none,data:=.fields ps }:=x;show h'.get? a=some { cls:=.none,data:=.fields ps };exact k a _ (.inl rfl) e
 | met f y=>
   have e:h.get? a=some (W.methodObj (.ref f) (.ref y)):=x;show h'.get? a=some (W.methodObj (.ref f) (.ref y));exact k a _ (.inl rfl) e
 | ext φ=>obtain⟨p,⟨o,e⟩,st⟩:=x;exact⟨st _ _ p fun o q=>k _ _ (.inl rfl) q,⟨o,k _ _ (.inl rfl) e⟩,st⟩
theorem HOk.lt(x:HOk P w H h)(e:H a=some o):a < h.objs.size:=(x a o e).lt
theorem HOk.fresh(x:HOk P w H h)(e:h.objs.size<=a):H a=none:=by
 cases q:H a with
 | none=>rfl
 | some u=>exact absurd (Nat.lt_of_lt_of_le (x.lt q) e) (Nat.lt_irrefl _)
theorem HOk.kept(x:HOk P w H h)(k:∀ b u,h.get? b=some u->h'.get? b=some u):HOk P w H h':=fun a o e=>
 (x a o e).stay (fun b u _ q=>k b u q) (fun _ q=>q) fun _ _ q=>q
theorem HOk.laid(x:HOk P w H h)(k:∀ b u,h.get? b=some u->h'.get? b=some u)(hp:h.objs.size<=a)(new:ObjOk P w (upd H a o) h' a o):HOk P w (upd H a o) h':=fun b u e=>by
 have hn:=x.fresh hp;by_cases hb:b=a
 · subst hb;rw[upd_same]at e;cases e;exact new
 rw[upd_ne hb]at e;exact(x b u e).stay (fun c v _ q=>k c v q) (fun c q=>by rw[upd_ne (ne_of_none q hn)];exact q) fun c xs q=>by rw[upd_ne (ne_of_none q hn)];exact q
end
noncomputable def Rd(H:Hp)(a:Addr)(u:HO):Prop:=H a=some u ∨ ∃ o,H a=some (.frz o u)
theorem Rd.ok{P:Program}{w:World}{H:Hp}{h:Heap}{a:Addr}{u:HO}(r:Rd H a u)(x:HOk P w H h):ObjOk P w H h a u:=by
 rcases r with r | ⟨o,r⟩
 · exact x a u r
 obtain⟨_,q⟩:=x a _ r;exact q
noncomputable def Mut:Option HO->Prop
 | some (.lst _)=>True
 | some (.dK _)=>True
 | some (.dT _)=>True
 | some (.set _ _)=>True
 | some (.ins _ _ _)=>True
 | some (.ext _)=>True
 | _=>False
section
variable{P:Program}{w:World}{H:Hp}{h h':Heap}{x e:Addr}{o':HO}
theorem HOk.write(ok:HOk P w H h)(mu:Mut (H x))(he:e=x∨H e=some (.own x))(k:∀ b u,b≠e->h.get? b=some u->h'.get? b=some u)(heo:∃ u,h'.get? e=some u)
 (new:ObjOk P w (upd H x o') h' x o'):HOk P w (upd H x o') h':=fun b u q=>by
 have nown:∀ c y,H c=some (.own y)->c≠x:=fun c y r z=>by subst z;rw[r]at mu;exact mu
 have ntup:∀ c xs,H c=some (.tup xs)->c≠x:=fun c xs r z=>by subst z;rw[r]at mu;exact mu
 by_cases hb:b=x
 · subst hb;rw[upd_same]at q;cases q;exact new
 rw[upd_ne hb]at q;by_cases hbe:b=e
 · have q':H b=some (.own x):=by
    rcases he with z | z
    · exact absurd (hbe.trans z) hb
    rw[hbe];exact z
   rw[q]at q';cases q';obtain⟨v,hv⟩:=heo;exact⟨v,by rw[hbe];exact hv⟩
 refine(ok b u q).stay (fun c v hc r=>k c v ?_ r) (fun c r=>by rw[upd_ne (nown c b r)];exact r) fun c xs r=>by rw[upd_ne (ntup c xs r)];exact r
 rcases hc with rfl | hc
 · exact hbe
 rintro rfl;rcases he with z | z
 · exact nown c b hc z
 rw[hc]at z;cases z;exact hb rfl
end
structure Un(fs ex:List Addr)(H H':Hp)(h h':Heap):Prop where
 keep:∀ b o,h.get? b=some o->H b=none->b∉fs->b∉ex->h'.get? b=some o
 slot:∀ b o,h.get? b=some o->H b=none->b∈fs->b∉ex -> ∃ sl,h'.get? b=some { o with slots:=sl }
 free:∀ b o,h.get? b=some o->H b=none->b∉ex->H' b=none
 there:∀ b o,h.get? b=some o->b∉ex -> ∃ o',h'.get? b=some o'
 tups:∀ b xs,H b=some (.tup xs)->H' b=some (.tup xs)
 frzs:∀ b o u,H b=some (.frz o u)->H' b=some (.frz o u)
 tbls:∀ b ps,H b=some (.tbl ps) -> ∃ more,H' b=some (.tbl (ps++more))
section
variable{fs fs' ex ex':List Addr}{H H1 H2:Hp}{h h1 h2 h':Heap}{a x e:Addr}{o:HO}
theorem Un.any(u:Un fs ex H H1 h h1){b:Addr}{ob:Obj}(q:h.get? b=some ob)(n:H b=none)(hx:b∉ex):∃ sl,h1.get? b=some { ob with slots:=sl }:=by
 by_cases hb:b∈fs
 · exact u.slot b ob q n hb hx
 exact⟨ob.slots,u.keep b ob q n hb hx⟩
theorem Un.kept(k:∀ b u,h.get? b=some u->h'.get? b=some u):Un fs ex H H h h':=
 ⟨fun b ob q _ _ _=>k b ob q,fun b ob q _ _ _=>⟨ob.slots,k b ob q⟩,fun _ _ _ n _=>n,fun b ob q _=>⟨ob,k b ob q⟩,fun _ _ q=>q,fun _ _ _ q=>q,fun _ ps q=>⟨#[],by rw[q];simp⟩⟩
theorem Un.refl:Un fs ex H H h h:=Un.kept fun _ _ q=>q
theorem Un.laid(k:∀ b u,h.get? b=some u->h'.get? b=some u)(hp:h.objs.size<=a)(hn:H a=none):Un fs ex H (upd H a o) h h' where
 keep:=fun b u q _ _ _=>k b u q
 slot:=fun b u q _ _ _=>⟨u.slots,k b u q⟩
 free:=fun b u q n _=>by rw[upd_ne (Nat.ne_of_lt (Nat.lt_of_lt_of_le (Heap.lt_size q) hp))];exact n
 there:=fun b u q _=>⟨u,k b u q⟩
 tups:=fun b xs q=>by rw[upd_ne (ne_of_none q hn)];exact q
 frzs:=fun b u xs q=>by rw[upd_ne (ne_of_none q hn)];exact q
 tbls:=fun b ps q=>⟨#[],by rw[upd_ne (ne_of_none q hn),q];simp⟩
theorem Un.write(mu:Mut (H x))(he:e=x∨H e=some (.own x))(k:∀ b u,b≠e->h.get? b=some u->h'.get? b=some u)(heo:∃ u,h'.get? e=some u):Un fs ex H (upd H x o) h h':=by
 have hx:∀ b,H b=none->b≠x:=fun b n z=>by subst z;rw[n]at mu;exact mu
 have hb:∀ b,H b=none->b≠e:=fun b n z=>by
  subst z;rcases he with r | r
  · exact hx b n r
  rw[n]at r;cases r
 have hm:∀ b u,H b=some u -> ¬ Mut (some u)->b≠x:=fun b u q nm z=>by subst z;rw[q]at mu;exact nm mu
 refine⟨fun b u q n _ _=>k b u (hb b n) q,fun b u q n _ _=>⟨u.slots,k b u (hb b n) q⟩,fun b u q n _=>by rw[upd_ne (hx b n)];exact n,fun b u q _=>?_,
  fun b xs q=>by rw[upd_ne (hm b _ q fun z=>z)];exact q,fun b u xs q=>by rw[upd_ne (hm b _ q fun z=>z)];exact q,fun b ps q=>⟨#[],by rw[upd_ne (hm b _ q fun z=>z),q];simp⟩⟩
 by_cases hbe:b=e
 · subst hbe;exact heo
 exact⟨u,k b u hbe q⟩
end
noncomputable def trk(h:Heap)(H:Hp):List Addr:=(List.range h.objs.size).filter fun a=>(H a).isSome
noncomputable def hidT(h:Heap)(H:Hp):Heap:=W.hideAll h (trk h H)
theorem hidT_size(h:Heap)(H:Hp):(hidT h H).objs.size=h.objs.size:=W.hideAll_size _ _
theorem hidT_get{h:Heap}{H:Hp}{b:Addr}{o:Obj}(e:h.get? b=some o)(n:H b=none):(hidT h H).get? b=some o:=
 W.hideAll_get _ e fun hm=>by
  have q:(H b).isSome=true:=(List.mem_filter.mp hm).2;rw[n]at q;simp at q
theorem of_hidT{h:Heap}{H:Hp}{b:Addr}{o:Obj}(e:(hidT h H).get? b=some o):h.get? b=some o/\H b=none:=by
 have e':h.get? b=some o:=W.of_hideAll (trk h H) e;refine⟨e',?_⟩;cases q:H b with
 | none=>rfl
 | some x=>
   have hm:b∈trk h H:=List.mem_filter.mpr ⟨List.mem_range.mpr (Heap.lt_size e'),by simp[q]⟩
   have z:(hidT h H).get? b=none:=W.hideAll_none (trk h H) hm;rw[z]at e;cases e
end L2
namespace L2
open PySem PySem.Spec PyProof.Rows
structure Mod(K:W.Frag)(mg:Str->Option Value)(base:Heap):Prop where
 kin:K.In base
 glob:base.Ns mainGlobals mg
 blt:∃ mb,base.Ns builtinsNs mb /\ ∀ x:Str,x ≠ "__name__" -> mb x=bootBuiltins x
 nolimit:base.NoLimit
structure Cx where
 prog:Program
 w:World
 K:W.Frag
 mg:Str->Option Value
 base:Heap
 A:Around
 N:List Str
 s₀:Shared
 H₀:Hp
 env:Env
 outer:List Env
 stack:List Env
 ex:List Addr
 fn:Str->Bool
 calm:Bool
 pn:List (Addr×Obj)
 xe:Value->Shared->Prop
noncomputable def frs(l:List Env):List Addr:=l.filterMap (·.frame)
noncomputable abbrev Cx.fs(X:Cx):List Addr:=frs X.outer
noncomputable def Vis(sc:Scope)(x:Str):Prop:=sc.names.lookup x=some .local∨sc.names.lookup x=some .cell∨sc.names.lookup x=some .free
noncomputable def Loc(sc:Scope)(x:Str):Prop:=sc.names.lookup x=some .local∨sc.names.lookup x=some .cell
noncomputable def Look(env:Env)(h:Heap)(m:Str->Option Value)(x:Str)(u:Value):Prop:=
 (env.kindOf x=some .local/\m x=some u)∨((env.kindOf x=some .cell∨env.kindOf x=some .free) /\ ∃ c,env.cells.lookup x=some c/\h.IsCell c (some u))
structure Cx.Ok(X:Cx):Prop where
 mod:Mod X.K X.mg X.base
 kind:X.env.scope.kind=.function
 glob:X.env.globals=mainGlobals
 blt:X.env.builtins=builtinsNs
 above:X.s₀.heap.objs.size<=X.env.locals
 inj:∀ x y c,X.env.cells.lookup x=some c->X.env.cells.lookup y=some c->x=y
 has:∀ x,(X.env.kindOf x=some .cell∨X.env.kindOf x=some .free) -> ∃ c,X.env.cells.lookup x=some c
 cab:∀ x c,X.fn x=true->X.env.cells.lookup x=some c->X.s₀.heap.objs.size<=c
 hd:X.calm=true->X.A.handled=none
 frames:X.A.frames=some X.stack
 stk:X.stack=X.outer∨(X.stack=X.env::X.outer/\X.env.frame=some X.env.locals)
 exf:∀ b∈X.ex,b≠X.env.locals /\ ∀ x c,X.env.cells.lookup x=some c->c≠b
 bs:∀ b o,X.base.get? b=some o->X.s₀.heap.get? b=some o/\X.H₀ b=none
 bsz:X.base.objs.size<=X.s₀.heap.objs.size
 noex:∀ b o,X.base.get? b=some o->b∉X.ex
 exfs:∀ b∈X.ex,b∉X.fs
 funs:X.s₀.heap.FunFrames X.base X.outer
 frf:∀ b∈X.fs,X.H₀ b=none
structure Inv(X:Cx)(pins:List (Addr×Obj))(σ:List (Option V))(H:Hp)(s:Shared):Prop where
 ok:X.Ok
 os:s.os=X.s₀.os
 bare:AllBare s.gens
 base:Un X.fs X.ex X.H₀ H X.s₀.heap s.heap
 loc:∃ m,s.heap.Ns X.env.locals m /\ ∀(i:Nat) (x:Str) (v:V),X.N[i]?=some x -> σ[i]?=some (some v)->Vis X.env.scope x -> ∃ u,RelV v u/\Look X.env s.heap m x u
 cell:∀ x c,X.env.cells.lookup x=some c -> ∃ v,s.heap.IsCell c v
 free:H X.env.locals=none
 freeC:∀ x c,X.env.cells.lookup x=some c->H c=none
 pin:∀ p∈X.pn++pins,s.heap.get? p.1=some p.2/\H p.1=none/\p.1≠X.env.locals/\p.1∉X.fs /\ ∀ v,p.2.data ≠ .cell v
 hok:HOk X.prog X.w H s.heap
 len:σ.length=X.N.length
section
variable{X:Cx}{pins:List (Addr×Obj)}{σ:List (Option V)}{H H':Hp}{s:Shared}{h':Heap}
theorem Cx.Ok.nofr(ok:X.Ok){b:Addr}{o:Obj}(e:X.base.get? b=some o):b∉X.fs:=fun hb=>by
 have:=(ok.funs.mem hb).1;rw[e]at this;cases this
theorem Inv.bs(I:Inv X pins σ H s):∀ b o,X.base.get? b=some o->s.heap.get? b=some o/\H b=none:=fun b o e=>
 ⟨I.base.keep b o (I.ok.bs b o e).1 (I.ok.bs b o e).2 (I.ok.nofr e) (I.ok.noex b o e),I.base.free b o (I.ok.bs b o e).1 (I.ok.bs b o e).2 (I.ok.noex b o e)⟩
theorem Inv.bk(I:Inv X pins σ H s):∀ b o,X.base.get? b=some o->s.heap.get? b=some o:=fun b o e=>(I.bs b o e).1
theorem Inv.mod(I:Inv X pins σ H s):Mod X.K X.mg X.base:=I.ok.mod
theorem Inv.kIn(I:Inv X pins σ H s):X.K.In s.heap:=I.ok.mod.kin.keeps I.bk
theorem Inv.lt(I:Inv X pins σ H s):X.env.locals < s.heap.objs.size:=let⟨_,hn,_⟩:=I.loc;hn.lt
theorem Inv.sz(I:Inv X pins σ H s):X.s₀.heap.objs.size<=s.heap.objs.size:=Nat.le_trans I.ok.above (Nat.le_of_lt I.lt)
theorem Inv.nofs(I:Inv X pins σ H s){a:Addr}(h:s.heap.objs.size<=a):a∉X.fs:=fun hb=>by
 obtain⟨_,o,ho,_⟩:=I.ok.funs.mem hb;exact absurd (Nat.lt_of_lt_of_le (Heap.lt_size ho) (Nat.le_trans I.sz h)) (Nat.lt_irrefl _)
theorem Inv.cne(I:Inv X pins σ H s):∀ x c,X.env.cells.lookup x=some c->c≠X.env.locals:=fun x c e z=>by
 obtain⟨v,o,ho,hd⟩:=I.cell x c e;obtain⟨m,⟨o',es,ep,ho',hd',_⟩,_⟩:=I.loc;rw[z,ho']at ho;cases ho;rw[hd']at hd;cases hd
theorem Inv.funs(I:Inv X pins σ H s):s.heap.FunFrames X.base X.outer:=by
 have all:∀(l:List Env),(∀ b∈frs l,b∈X.fs)->X.s₀.heap.FunFrames X.base l->s.heap.FunFrames X.base l:=by
  intro l
  induction l with
  | nil=>intro _ _;trivial
  | cons env r ih=>
    intro hs hl;obtain⟨hk,⟨L,o,hf,hn,ho,hd⟩,hr⟩:=hl;have hL:L∈X.fs:=hs L (by unfold frs;rw[List.filterMap_cons,hf];exact List.mem_cons_self)
    obtain⟨sl,e⟩:=I.base.slot L o ho (I.ok.frf L hL) hL fun z=>I.ok.exfs L z hL;exact⟨hk,⟨L,_,hf,hn,e,hd⟩,ih (fun b hb=>hs b (by unfold frs;rw[List.filterMap_cons,hf];exact List.mem_cons_of_mem _ hb)) hr⟩
 exact all X.outer (fun _ hb=>hb) I.ok.funs
theorem Inv.stack(I:Inv X pins σ H s):s.heap.FunFrames X.base X.stack:=by
 rcases I.ok.stk with e | ⟨e,hf⟩
 · rw[e];exact I.funs
 rw[e];obtain⟨m,hn,_⟩:=I.loc;refine .cons (by rw[I.ok.kind];decide) hf hn ?_ I.funs
 exact Heap.get?_none_of_le (Nat.le_trans I.ok.bsz I.ok.above)
theorem Inv.stkSub(I:Inv X pins σ H s):∀ b∈frs X.stack,b∈X.env.locals::X.fs:=fun b hb=>by
 rcases I.ok.stk with e | ⟨e,hf⟩
 · rw[e]at hb;exact List.mem_cons_of_mem _ hb
 rw[e]at hb;unfold frs at hb;rw[List.filterMap_cons,hf]at hb;exact hb
theorem Inv.stkFree(I:Inv X pins σ H s):∀ b∈frs X.stack,H b=none:=fun b hb=>by
 rcases List.mem_cons.mp (I.stkSub b hb)with e | hb
 · rw[e];exact I.free
 obtain⟨_,o,ho,_⟩:=I.ok.funs.mem hb;exact I.base.free b o ho (I.ok.frf b hb) fun z=>I.ok.exfs b z hb
theorem Inv.step{g':Array GenState}{t':Nat}{d':Drawn}{ch:List Addr}(I:Inv X pins σ H s)
 (hch:∀ b∈ch,(b∈X.ex∨X.s₀.heap.objs.size<=b)/\b≠X.env.locals/\(∀ x c,X.env.cells.lookup x=some c->c≠b) /\ ∀ p∈X.pn++pins,p.1≠b)
 (keep:∀ b o,b≠X.env.locals->b∉X.fs->b∉ch->s.heap.get? b=some o->H b=none->h'.get? b=some o)
 (slot:∀ b o,b≠X.env.locals->b∈X.fs->b∉ch->s.heap.get? b=some o->H b=none -> ∃ sl,h'.get? b=some { o with slots:=sl }) (free:∀ b o,b∉ch->s.heap.get? b=some o->H b=none->H' b=none)
 (there:∀ b o,b∉ch->s.heap.get? b=some o -> ∃ o',h'.get? b=some o')
 (tups:∀ b xs,H b=some (.tup xs)->H' b=some (.tup xs)) (frzs:∀ b o u,H b=some (.frz o u)->H' b=some (.frz o u)) (tbls:∀ b ps,H b=some (.tbl ps) -> ∃ more,H' b=some (.tbl (ps++more)))
 (ns:∀ m,s.heap.Ns X.env.locals m->h'.Ns X.env.locals m) (hok:HOk X.prog X.w H' h') (hg:AllBare g') :
 Inv X pins σ H' { s with heap:=h',gens:=g',drawn:=d',toks:=t' }:=by
 have neL:∀ b o,X.s₀.heap.get? b=some o->b≠X.env.locals:=fun b o e=>Nat.ne_of_lt (Nat.lt_of_lt_of_le (Heap.lt_size e) I.ok.above);have neC:∀ b o,X.s₀.heap.get? b=some o->b∉X.ex->b∉ch:=fun b o e hx hb=>by
  rcases(hch b hb).1 with z | z
  · exact hx z
  exact absurd (Nat.lt_of_lt_of_le (Heap.lt_size e) z) (Nat.lt_irrefl _)
 have cellK:∀ x c,X.env.cells.lookup x=some c -> ∀ v,s.heap.IsCell c v->h'.IsCell c v:=fun x c e v ⟨o,ho,hd⟩=>by
  have nch:c∉ch:=fun z=>(hch c z).2.2.1 x c e rfl;by_cases hc:c∈X.fs
  · obtain⟨sl,q⟩:=slot c o (I.cne x c e) hc nch ho (I.freeC x c e)
    exact⟨_,q,hd⟩
  exact⟨o,keep c o (I.cne x c e) hc nch ho (I.freeC x c e),hd⟩
 refine⟨I.ok,I.os,hg,⟨fun b o e n hb hx=>?_,fun b o e n hb hx=>?_,fun b o e n hx=>?_,fun b o e hx=>?_,fun b xs e=>tups b xs (I.base.tups b xs e),fun b o xs e=>frzs b o xs (I.base.frzs b o xs e),fun b ps e=>?_⟩,?_,fun x c e=>?_,?_,fun x c e=>?_,fun p hp=>?_,hok,I.len⟩
 · exact keep b o (neL b o e) hb (neC b o e hx) (I.base.keep b o e n hb hx) (I.base.free b o e n hx)
 · obtain⟨sl,e1⟩:=I.base.slot b o e n hb hx
   obtain⟨sl',e2⟩:=slot b _ (neL b o e) hb (neC b o e hx) e1 (I.base.free b o e n hx);exact⟨sl',e2⟩
 · obtain⟨o',e1⟩:=I.base.there b o e hx
   exact free b o' (neC b o e hx) e1 (I.base.free b o e n hx)
 · obtain⟨o',e1⟩:=I.base.there b o e hx
   exact there b o' (neC b o e hx) e1
 · obtain⟨m1,e1⟩:=I.base.tbls b ps e
   obtain⟨m2,e2⟩:=tbls b _ e1;exact⟨m1++m2,by rw[e2,Array.append_assoc]⟩
 · obtain⟨m,hn,hl⟩:=I.loc
   refine⟨m,ns m hn,fun i x v e1 e2 e3=>?_⟩;obtain⟨u,r,l⟩:=hl i x v e1 e2 e3;refine⟨u,r,?_⟩;rcases l with l | ⟨k,c,e,z⟩
   · exact .inl l
   exact .inr ⟨k,c,e,cellK x c e _ z⟩
 · obtain⟨v,z⟩:=I.cell x c e
   exact⟨v,cellK x c e v z⟩
 · obtain⟨m,⟨o,_,_,ho,_⟩,_⟩:=I.loc
   exact free _ o (fun z=>(hch _ z).2.1 rfl) ho I.free
 · obtain⟨v,o,ho,hd⟩:=I.cell x c e
   exact free c o (fun z=>(hch c z).2.2.1 x c e rfl) ho (I.freeC x c e)
 obtain⟨e,n,ne,nf,d⟩:=I.pin p hp;have nch:p.1∉ch:=fun z=>(hch p.1 z).2.2.2 p hp rfl;exact⟨keep p.1 p.2 ne nf nch e n,free p.1 p.2 nch e n,ne,nf,d⟩
theorem Inv.un{t':Nat}(I:Inv X pins σ H s)(u:Un X.fs [] H H' s.heap h')(hok:HOk X.prog X.w H' h'):Inv X pins σ H' { s with heap:=h',toks:=t' }:=by
 obtain⟨m,⟨o,es,ep,ho,r⟩,_⟩:=id I.loc;obtain⟨sl,hL⟩:=u.any ho I.free (by simp)
 exact I.step (g':=s.gens) (d':=s.drawn) (ch:=[]) (fun _ z=>nomatch z) (fun b o _ hb _ e n=>u.keep b o e n hb (by simp)) (fun b o _ hb _ e n=>u.slot b o e n hb (by simp)) (fun b o _ e n=>u.free b o e n (by simp)) (fun b o _ e=>u.there b o e (by simp)) u.tups u.frzs u.tbls (fun m' hm=>by
  obtain⟨o',es',ep',ho',r'⟩:=hm;rw[ho]at ho';cases ho';exact⟨_,es',ep',hL,r'⟩) hok I.bare
theorem Inv.call{g':Array GenState}{t':Nat}{d':Drawn}{ch:List Addr}(I:Inv X pins σ H s)(u:Un (frs X.stack) ch H H' s.heap h')(hok:HOk X.prog X.w H' h')(hg:AllBare g')
 (hch:∀ b∈ch,(b∈X.ex∨X.s₀.heap.objs.size<=b)/\b≠X.env.locals/\(∀ x c,X.env.cells.lookup x=some c->c≠b) /\ ∀ p∈X.pn++pins,p.1≠b) :
 Inv X pins σ H' { s with heap:=h',gens:=g',drawn:=d',toks:=t' }:=by
 obtain⟨m,⟨o,es,ep,ho,r⟩,_⟩:=id I.loc;obtain⟨sl,hL⟩:=u.any ho I.free fun z=>(hch _ z).2.1 rfl;exact I.step (ch:=ch) hch (fun b o hL hb hc e n=>u.keep b o e n (fun z=>(List.mem_cons.mp (I.stkSub b z)).elim hL hb) hc) (fun b o _ _ hc e n=>u.any e n hc) (fun b o hc e n=>u.free b o e n hc) (fun b o hc e=>u.there b o e hc) u.tups u.frzs u.tbls (fun m' hm=>by
  obtain⟨o',es',ep',ho',r'⟩:=hm;rw[ho]at ho';cases ho';exact⟨_,es',ep',hL,r'⟩) hok hg
theorem Inv.turned{t':Nat}{it:Addr}(I:Inv X pins σ H s)(k:∀ b o,b≠it->s.heap.get? b=some o->h'.get? b=some o)(hn:H it=none)(hL:it≠X.env.locals)
 (h1:it∈X.ex∨X.s₀.heap.objs.size<=it) (h2:∀ x c,X.env.cells.lookup x=some c->c≠it) (h3:∀ p∈X.pn++pins,p.1≠it):Inv X pins σ H { s with heap:=h',toks:=t' }:=by
 have nit:∀ b u,H b=some u->b≠it:=fun b u e z=>by rw[z,hn]at e;cases e
 refine I.step (g':=s.gens) (d':=s.drawn) (ch:=[it]) (fun b hb=>?_) (fun b o _ _ hc e _=>k b o (fun z=>hc (by simp[z])) e) (fun b o _ _ hc e _=>⟨o.slots,k b o (fun z=>hc (by simp[z])) e⟩) (fun _ _ _ _ n=>n)
  (fun b o hc e=>⟨o,k b o (fun z=>hc (by simp[z])) e⟩) (fun _ _ e=>e) (fun _ _ _ e=>e) (fun b ps e=>⟨#[],by rw[e];simp⟩) (fun m hm=>?_) (fun b u e=>?_) I.bare
 · have e:b=it:=by simpa using hb
   subst e;exact⟨h1,hL,h2,h3⟩
 · obtain⟨o,es,ep,ho,r⟩:=hm
   exact⟨o,es,ep,k _ o (Ne.symm hL) ho,r⟩
 refine(I.hok b u e).stay (fun c v hc q=>k c v ?_ q) (fun _ q=>q) fun _ _ q=>q;rcases hc with z | z
 · rw[z];exact nit b u e
 exact nit c _ z
theorem Inv.tok(I:Inv X pins σ H s)(t:Nat):Inv X pins σ H { s with toks:=t }:=I.un (h':=s.heap) (t':=t) Un.refl I.hok
theorem Inv.kept{t':Nat}(I:Inv X pins σ H s)(k:∀ b u,s.heap.get? b=some u->h'.get? b=some u):Inv X pins σ H { s with heap:=h',toks:=t' }:=I.un (Un.kept k) (I.hok.kept k)
theorem Inv.laid{a:Addr}{o:HO}{t':Nat}(I:Inv X pins σ H s)(k:∀ b u,s.heap.get? b=some u->h'.get? b=some u)(hp:s.heap.objs.size<=a)(new:ObjOk X.prog X.w (upd H a o) h' a o) :
 Inv X pins σ (upd H a o) { s with heap:=h',toks:=t' }:=I.un (Un.laid k hp (I.hok.fresh hp)) (I.hok.laid k hp new)
theorem Inv.write{x e:Addr}{o:HO}{t':Nat}(I:Inv X pins σ H s)(mu:Mut (H x))(he:e=x∨H e=some (.own x))(k:∀ b u,b≠e->s.heap.get? b=some u->h'.get? b=some u)(heo:∃ u,h'.get? e=some u)
 (new:ObjOk X.prog X.w (upd H x o) h' x o):Inv X pins σ (upd H x o) { s with heap:=h',toks:=t' }:=I.un (Un.write mu he k heo) (I.hok.write mu he k heo new)
theorem Inv.pins_of{pins':List (Addr×Obj)}(I:Inv X pins σ H s)(h:∀ p∈pins',s.heap.get? p.1=some p.2/\H p.1=none/\p.1≠X.env.locals/\p.1∉X.fs /\ ∀ v,p.2.data ≠ .cell v):Inv X pins' σ H s:=
 ⟨I.ok,I.os,I.bare,I.base,I.loc,I.cell,I.free,I.freeC,fun p hp=>(List.mem_append.mp hp).elim (fun z=>I.pin p (List.mem_append_left _ z)) (h p),I.hok,I.len⟩
theorem nodup_ix{N:List Str}(hN:N.Nodup){i j:Nat}{x:Str}(a:N[i]?=some x)(b:N[j]?=some x):i=j:=by
 obtain⟨h1,e1⟩:=List.getElem?_eq_some_iff.mp a;obtain⟨h2,e2⟩:=List.getElem?_eq_some_iff.mp b;exact(List.getElem_inj hN).mp (e1.trans e2.symm)
theorem store_ok2{M:Model}{A:Around}{E:Value->Shared->Prop}{i:Nat}{x:Str}{v:V}{u:Value}{Q:Unit->Shared->Prop}(I:Inv X pins σ H s)(hN:X.N.Nodup)(hi:X.N[i]?=some x)(hx:Loc X.env.scope x)(r:RelV v u)
 (h:∀ s',Inv X pins (σ.set i (some v)) H s'->(∃ a,Heap.SameBut a s.heap s'.heap/\(a=X.env.locals∨X.env.cells.lookup x=some a))->Q () s') (hf:X.fn x=true∨X.env.scope.names.lookup x=some .local:=by first | exact .inl rfl | exact .inr rfl | assumption):wpAny M A (storeName X.env x u) Q E s:=by
 obtain⟨m,hn,hl⟩:=id I.loc;have hcls:(X.env.scope.kind == .class || (X.env.scope.kind == .module && X.env.locals != X.env.globals))=false:=by rw[I.ok.kind];rfl
 have hiσ:i < σ.length:=by rw[I.len];exact(List.getElem?_eq_some_iff.mp hi).1
 have cne:=I.cne;have tracked:∀{a:Addr}{h':Heap},(∃ o,s.heap.get? a=some o/\H a=none)->Heap.SameBut a s.heap h'->HOk X.prog X.w H h':=fun {a h'} ha hs b ob e=>by
  obtain⟨_,_,hfree⟩:=ha;refine(I.hok b ob e).stay (fun c w' hc q=>(hs.2 c ?_).trans q) (fun _ q=>q) fun _ _ q=>q;rintro rfl;rcases hc with rfl | hc
  · rw[hfree]at e;cases e
  rw[hfree]at hc;cases hc
 rcases hx with hk | hk
 · refine wpAny_storeName_local hk hn (fun h' hn' hs=>?_) hcls
   obtain⟨oL,_,_,hoL,_⟩:=id hn;refine h _ ⟨I.ok,I.os,I.bare,⟨fun b o e n hb hx=>?_,fun b o e n hb hx=>?_,I.base.free,fun b o e hx=>?_,I.base.tups,I.base.frzs,I.base.tbls⟩,⟨_,hn',fun j y v' e1 e2 e3=>?_⟩,fun y c e=>?_,I.free,I.freeC,fun p hp=>?_,tracked ⟨oL,hoL,I.free⟩ hs,by simpa using I.len⟩ ⟨_,hs,.inl rfl⟩
   · exact(hs.2 b (Nat.ne_of_lt (Nat.lt_of_lt_of_le (Heap.lt_size e) I.ok.above))).trans (I.base.keep b o e n hb hx)
   · obtain⟨sl,e1⟩:=I.base.slot b o e n hb hx
     exact⟨sl,(hs.2 b (Nat.ne_of_lt (Nat.lt_of_lt_of_le (Heap.lt_size e) I.ok.above))).trans e1⟩
   · obtain⟨o',e1⟩:=I.base.there b o e hx
     exact⟨o',(hs.2 b (Nat.ne_of_lt (Nat.lt_of_lt_of_le (Heap.lt_size e) I.ok.above))).trans e1⟩
   · by_cases hj:j=i
     · subst hj
       rw[hi]at e1;cases e1;rw[List.getElem?_set_self hiσ]at e2;cases e2;exact⟨u,r,.inl ⟨hk,by simp⟩⟩
     rw[List.getElem?_set_ne (Ne.symm hj)]at e2;obtain⟨u',r',q⟩:=hl j y v' e1 e2 e3;refine⟨u',r',?_⟩;rcases q with ⟨k,e⟩ | ⟨k,c,e,z⟩
     · refine .inl ⟨k,?_⟩
       have:y≠x:=fun e=>hj (nodup_ix hN e1 (e ▸ hi));simp[this,e]
     exact .inr ⟨k,c,e,z.sameBut hs (cne y c e)⟩
   · obtain⟨w',z⟩:=I.cell y c e
     exact⟨w',z.sameBut hs (cne y c e)⟩
   obtain⟨e,n,ne,nf,d⟩:=I.pin p hp;exact⟨(hs.2 p.1 ne).trans e,n,ne,nf,d⟩
 have hfn:X.fn x=true:=by
  rcases hf with z | z
  · exact z
  rw[z]at hk;cases hk
 obtain⟨c,hc⟩:=I.ok.has x (.inl hk);obtain⟨w',z⟩:=I.cell x c hc;refine wpAny_storeName_cell I.ok.kind hk hc z (fun h' hc' hs=>?_);obtain⟨oc,hoc,hocd⟩:=id z;refine h { s with heap:=h' } ⟨I.ok,I.os,I.bare,⟨fun b o e n hb hx=>?_,fun b o e n hb hx=>?_,I.base.free,fun b o e hx=>?_,I.base.tups,I.base.frzs,I.base.tbls⟩,⟨m,hn.sameBut hs (Ne.symm (cne x c hc)),fun j y v' e1 e2 e3=>?_⟩,fun y c' e=>?_,I.free,I.freeC,fun p hp=>?_,tracked ⟨oc,hoc,I.freeC x c hc⟩ hs,by simpa using I.len⟩ ⟨c,hs,.inr hc⟩
 · exact(hs.2 b (Nat.ne_of_lt (Nat.lt_of_lt_of_le (Heap.lt_size e) (I.ok.cab x c hfn hc)))).trans (I.base.keep b o e n hb hx)
 · obtain⟨sl,e1⟩:=I.base.slot b o e n hb hx
   exact⟨sl,(hs.2 b (Nat.ne_of_lt (Nat.lt_of_lt_of_le (Heap.lt_size e) (I.ok.cab x c hfn hc)))).trans e1⟩
 · obtain⟨o',e1⟩:=I.base.there b o e hx
   exact⟨o',(hs.2 b (Nat.ne_of_lt (Nat.lt_of_lt_of_le (Heap.lt_size e) (I.ok.cab x c hfn hc)))).trans e1⟩
 · by_cases hj:j=i
   · subst hj
     rw[hi]at e1;cases e1;rw[List.getElem?_set_self hiσ]at e2;cases e2;exact⟨u,r,.inr ⟨.inl hk,c,hc,hc'⟩⟩
   rw[List.getElem?_set_ne (Ne.symm hj)]at e2;obtain⟨u',r',q⟩:=hl j y v' e1 e2 e3;refine⟨u',r',?_⟩;rcases q with q | ⟨k,c',e,z'⟩
   · exact .inl q
   refine .inr ⟨k,c',e,z'.sameBut hs ?_⟩;rintro rfl;exact hj (nodup_ix hN e1 (I.ok.inj _ _ _ e hc ▸ hi))
 · by_cases hcc:c'=c
   · subst hcc;exact⟨_,hc'⟩
   obtain⟨w2,z2⟩:=I.cell y c' e;exact⟨w2,z2.sameBut hs hcc⟩
 obtain⟨e,n,ne,nf,d⟩:=I.pin p hp;refine⟨(hs.2 p.1 ?_).trans e,n,ne,nf,d⟩;intro q;rw[q,hoc]at e;have q':oc=p.2:=Option.some.inj e;exact d w' (by rw[← q'];exact hocd)
theorem store_ok{M:Model}{A:Around}{E:Value->Shared->Prop}{i:Nat}{x:Str}{v:V}{u:Value}{Q:Unit->Shared->Prop}(I:Inv X pins σ H s)(hN:X.N.Nodup)(hi:X.N[i]?=some x)(hx:Loc X.env.scope x)(r:RelV v u)
 (h:∀ s',Inv X pins (σ.set i (some v)) H s'->Q () s') (hf:X.fn x=true∨X.env.scope.names.lookup x=some .local:=by first | exact .inl rfl | exact .inr rfl | assumption):wpAny M A (storeName X.env x u) Q E s:=
 store_ok2 I hN hi hx r (fun s' I' _=>h s' I') hf
theorem Inv.call'{s':Shared}{ch:List Addr}(I:Inv X pins σ H s)(ho:s'.os=s.os)(u:Un (frs X.stack) ch H H' s.heap s'.heap)(hok:HOk X.prog X.w H' s'.heap)(hg:AllBare s'.gens)
 (hch:∀ b∈ch,(b∈X.ex∨X.s₀.heap.objs.size<=b)/\b≠X.env.locals/\(∀ x c,X.env.cells.lookup x=some c->c≠b) /\ ∀ p∈X.pn++pins,p.1≠b):Inv X pins σ H' s':=by
 obtain⟨h',g',d',t',o'⟩:=s';have e:o'=s.os:=ho;subst e;exact I.call (g':=g') (t':=t') (d':=d') u hok hg hch
end
noncomputable abbrev XK:=Value->Option Addr->Hp->Prop
noncomputable abbrev St:=List (Option V)
noncomputable abbrev VK:=V->Hp->Prop
noncomputable abbrev TE:=St->Hp->VK->Prop
noncomputable abbrev TT:=St->Hp->(Bool->Hp->Prop)->Prop
noncomputable abbrev TA:=St->Hp->(List V->Hp->Prop)->Prop
structure Ends where
 nx:St->Hp->Prop
 rt:VK
 bk:St->Hp->Prop:=fun _ _=>False
 ct:St->Hp->Prop:=fun _ _=>False
noncomputable abbrev TS:=Ends->St->Hp->Prop
noncomputable def EP(X:Cx)(pins:List (Addr×Obj))(σ:St)(Q:VK)(u:Value)(s':Shared):Prop:=∃ v H',Inv X pins σ H' s'/\RelV v u/\Q v H'
noncomputable def TP(X:Cx)(pins:List (Addr×Obj))(σ:St)(Q:Bool->Hp->Prop)(b:Bool)(s':Shared):Prop:=∃ H',Inv X pins σ H' s'/\Q b H'
noncomputable def AP(X:Cx)(pins:List (Addr×Obj))(σ:St)(Q:List V->Hp->Prop)(us:List Value)(s':Shared):Prop:=∃ vs H',Inv X pins σ H' s'/\Vals vs us/\Q vs H'
noncomputable def SP(X:Cx)(pins:List (Addr×Obj))(D:Ends)(f:Flow)(s':Shared):Prop:=
 match f with
 | .next=>∃ σ' H',Inv X pins σ' H' s'/\D.nx σ' H'
 | .brk=>∃ σ' H',Inv X pins σ' H' s'/\D.bk σ' H'
 | .cont=>∃ σ' H',Inv X pins σ' H' s'/\D.ct σ' H'
 | .ret u=>∃ v σ' H',Inv X pins σ' H' s'/\RelV v u/\D.rt v H'
noncomputable def PE(X:Cx)(e:Expr)(t:TE):Prop:=
 ∀(pins:List (Addr×Obj)) (s:Shared) (σ:St) (H:Hp) (Q:VK),Inv X pins σ H s->t σ H Q->wpAny (model X.prog X.w) X.A (eval e X.env) (EP X pins σ Q) X.xe s
noncomputable def PT(X:Cx)(e:Expr)(t:TT):Prop:=
 ∀(pins:List (Addr×Obj)) (s:Shared) (σ:St) (H:Hp) (Q:Bool->Hp->Prop),Inv X pins σ H s->t σ H Q->wpAny (model X.prog X.w) X.A (isTrue e X.env (eval e X.env)) (TP X pins σ Q) X.xe s
noncomputable def PW(X:Cx)(e:Expr)(t:TT):Prop:=
 ∀(whole:Sem Value) (pins:List (Addr×Obj)) (s:Shared) (σ:St) (H:Hp) (Q:Bool->Hp->Prop),Inv X pins σ H s->t σ H Q->wpAny (model X.prog X.w) X.A (isTrue e X.env whole) (TP X pins σ Q) X.xe s
theorem PW.pt{X:Cx}{e:Expr}{t:TT}(h:PW X e t):PT X e t:=h _
noncomputable def PA(X:Cx)(es:List Expr)(t:TA):Prop:=
 ∀(pos:Pos) (pins:List (Addr×Obj)) (s:Shared) (σ:St) (H:Hp) (Q:List V->Hp->Prop),Inv X pins σ H s->t σ H Q->wpAny (model X.prog X.w) X.A (spliced (backTo pos (starEach es X.env))) (AP X pins σ Q) X.xe s
noncomputable def PS(X:Cx)(st:Stmt)(t:TS):Prop:=
 ∀(pins:List (Addr×Obj)) (s:Shared) (σ:St) (H:Hp) (D:Ends),Inv X pins σ H s->t D σ H->wpAny (model X.prog X.w) X.A (exec st X.env) (SP X pins D) X.xe s
noncomputable def PSs(X:Cx)(st:List Stmt)(t:TS):Prop:=
 ∀(pins:List (Addr×Obj)) (s:Shared) (σ:St) (H:Hp) (D:Ends),Inv X pins σ H s->t D σ H->wpAny (model X.prog X.w) X.A (execs st X.env) (SP X pins D) X.xe s
theorem thn{α:Type}{t:Sem α}{Q Q':α -> Shared->Prop}{M:Model}{A:Around}{E:Value->Shared->Prop}{s:Shared}(h:wpAny M A t Q E s)(hQ:∀ a s,Q a s->Q' a s):wpAny M A t Q' E s:=wpAny_mono h hQ fun _ _ x=>x
end L2
namespace L2
open PySem PySem.Spec PyProof.Rows
section
variable{X:Cx}
noncomputable def tVar(i:Nat):TE:=fun σ H Q=>∃ v,σ[i]?=some (some v)/\Q v H
noncomputable def tC(v:V):TE:=fun _ H Q=>Q v H
theorem pe_var{i:Nat}{x:Str}{pos:Pos}(hN:X.N[i]?=some x)(hv:Vis X.env.scope x)(hd:(x == ("__debug__":Str))=false:=by decide)(hcd:(x == ("__classdict__":Str))=false:=by decide):PE X (.Name x pos) (tVar i):=by
 intro pins s σ H Q I h;obtain⟨v,e,h⟩:=h;obtain⟨m,hn,hl⟩:=I.loc;obtain⟨u,r,l⟩:=hl i x v hN e hv;have fin:EP X pins σ Q u s:=⟨v,H,I,r,h⟩;rcases l with ⟨hk,hm⟩ | ⟨hk,c,hc,hcell⟩
 · exact wpAny_Name (wpAny_loadName_local I.ok.kind hk hn hm fin) hd
 rcases hk with hk | hk
 · exact wpAny_Name (wpAny_loadName_cell I.ok.kind hk hc hcell fin) hd
 exact wpAny_Name (wpAny_loadName_free I.ok.kind hk hc hcell fin hcd) hd
theorem pe_int{i j pos}:PE X (.Constant (.int i) j pos) (tC (.int i)):=fun _ _ _ H _ I h=>wpAny_Constant_int ⟨.int i,H,I.tok _,⟨_,rfl⟩,h⟩
theorem pe_bl{b j pos}:PE X (.Constant (.bool b) j pos) (tC (.bl b)):=fun _ _ _ H _ I h=>Constant_bool ⟨.bl b,H,I,rfl,h⟩
theorem pe_non{j pos}:PE X (.Constant .none j pos) (tC .non):=fun _ _ _ H _ I h=>Constant_none ⟨.non,H,I,rfl,h⟩
theorem pe_str{x j pos}:PE X (.Constant (.str x) j pos) (tC (.str x)):=fun _ _ _ H _ I h=>Calls.Constant_str ⟨.str x,H,I.tok _,⟨_,rfl⟩,h⟩
noncomputable def Gl(X:Cx)(x:Str):Prop:=X.env.kindOf x=some .globalImplicit
theorem ld_glob{E:Value->Shared->Prop}{pins:List (Addr×Obj)}{s:Shared}{σ:St}{H:Hp}{x:Str}{u:Value}{pos:Pos}{Q:Value->Shared->Prop}(I:Inv X pins σ H s)(hg:Gl X x)(hm:X.mg x=some u)(h:Q u s)
 (hd:(x == ("__debug__":Str))=false:=by decide):wpAny (model X.prog X.w) X.A (eval (.Name x pos) X.env) Q E s:=
 Calls.Name_function_global I.ok.kind hg (Calls.loadGlobal_global (by rw[I.ok.glob];exact I.mod.glob.keeps I.bk) hm h) hd
theorem ld_blt{E:Value->Shared->Prop}{pins:List (Addr×Obj)}{s:Shared}{σ:St}{H:Hp}{x:Str}{u:Value}{pos:Pos}{Q:Value->Shared->Prop}(I:Inv X pins σ H s)(hg:Gl X x)(hm:X.mg x=none)(hv:bootBuiltins x=some u)(h:Q u s)
 (hn:x ≠ "__name__":=by decide) (hd:(x == ("__debug__":Str))=false:=by decide):wpAny (model X.prog X.w) X.A (eval (.Name x pos) X.env) Q E s:=by
 obtain⟨mb,h1,h2⟩:=I.mod.blt;exact Calls.Name_function_global I.ok.kind hg (Calls.loadGlobal_builtin (by rw[I.ok.glob];exact I.mod.glob.keeps I.bk) hm (by rw[I.ok.blt];exact h1.keeps I.bk) ((h2 x hn).trans hv) h) hd
theorem pe_glob{x:Str}{v:V}{u:Value}{pos:Pos}(hg:Gl X x)(hm:X.mg x=some u)(r:RelV v u)(hd:(x == ("__debug__":Str))=false:=by decide):PE X (.Name x pos) (tC v):=
 fun _ _ _ H _ I h=>ld_glob I hg hm ⟨v,H,I,r,h⟩ hd
theorem pe_bltn{x:Str}{v:V}{u:Value}{pos:Pos}(hg:Gl X x)(hm:X.mg x=none)(hv:bootBuiltins x=some u)(r:RelV v u)(hn:x ≠ "__name__":=by decide)(hd:(x == ("__debug__":Str))=false:=by decide):PE X (.Name x pos) (tC v):=
 fun _ _ _ H _ I h=>ld_blt I hg hm hv ⟨v,H,I,r,h⟩ hn hd
variable{a b:Expr}{ta tb:TE}{pos:Pos}
noncomputable def tB(t:TE):TT:=fun σ H Q=>t σ H fun x H1=>∃ c,x=.bl c/\Q c H1
theorem pt_val{e:Expr}{t:TE}(h:PE X e t)(he:∀ whole,isTrue e X.env whole=(do let v ← whole;standAt e.pos;holding [v] (truthy v)):=by intro _;rfl):PT X e (tB t):=by
 intro pins s σ H Q I hw;refine isTrue_plain (thn (h pins s σ H _ I hw) fun v s1 ⟨x,H1,I1,r1,q1⟩=>?_) (he _);obtain⟨d,rfl,q⟩:=q1;cases r1;exact wpAny_truthy_bool ⟨H1,I1,q⟩
variable{tA tB':TT}{rest:List Expr}
noncomputable def tOr(t u:TT):TT:=fun σ H Q=>t σ H fun c H1=>if c=true then Q true H1 else u σ H1 Q
noncomputable def tNot(t:TT):TT:=fun σ H Q=>t σ H fun c H1=>Q (!c) H1
theorem pw_or1(ha:PT X a tA):PW X (.BoolOp .Or [a] pos) tA:=by
 intro wh pins s σ H Q I h;refine isTrue_or (thn (ha pins s σ H Q I h) fun c s1 e=>?_);cases c with
 | false=>exact isTrue_or_nil e
 | true=>exact e
theorem pw_or(ha:PT X a tA)(hb:PW X (.BoolOp .Or (b::rest) pos) tB'):PW X (.BoolOp .Or (a::b::rest) pos) (tOr tA tB'):=by
 intro wh pins s σ H Q I h;refine isTrue_or (thn (ha pins s σ H _ I h) fun c s1 zz=>?_);obtain⟨H1,I1,q1⟩:=zz;cases c with
 | true=>exact⟨H1,I1,q1⟩
 | false=>exact hb wh pins s1 σ H1 Q I1 q1
theorem pt_not(ha:PT X a tA):PT X (.UnaryOp .Not a pos) (tNot tA):=by
 intro pins s σ H Q I h;exact isTrue_not (ha pins s σ H (fun c H1=>Q (!c) H1) I h)
noncomputable def tAndV(ta tb:TE):TE:=fun σ H Q=>ta σ H fun x H1=>∃ c,x=.bl c/\if c=true then tb σ H1 Q else Q (.bl false) H1
noncomputable def tNotV(ta:TE):TE:=fun σ H Q=>ta σ H fun x H1=>∃ c,x=.bl c/\Q (.bl (!c)) H1
theorem pe_one{op}{t:TE}(h:PE X a t):PE X (.BoolOp op [a] pos) t:=fun pins s σ H Q I hw=>BoolOp_one (h pins s σ H Q I hw)
theorem pe_and(ha:PE X a ta)(hb:PE X (.BoolOp .And (b::rest) pos) tb):PE X (.BoolOp .And (a::b::rest) pos) (tAndV ta tb):=by
 intro pins s σ H Q I h;refine BoolOp_and (thn (ha pins s σ H _ I h) fun v s1 zz=>?_);obtain⟨x,H1,I1,r1,q1⟩:=zz;obtain⟨c,rfl,q1⟩:=q1;cases r1;refine wpAny_truthy_bool ?_;cases c with
 | true=>exact hb pins s1 σ H1 Q I1 q1
 | false=>exact⟨.bl false,H1,I1,rfl,q1⟩
theorem pe_not(ha:PE X a ta):PE X (.UnaryOp .Not a pos) (tNotV ta):=by
 intro pins s σ H Q I h;refine UnaryOp_ (thn (ha pins s σ H _ I h) fun v s1 zz=>?_);obtain⟨x,H1,I1,r1,q1⟩:=zz;obtain⟨c,rfl,q1⟩:=q1;cases r1;exact not_of (wpAny_truthy_bool ⟨.bl (!c),H1,I1,rfl,q1⟩)
end
end L2
namespace L2
open PySem PySem.Spec PyProof.Rows
noncomputable def SqL(K:W.Frag)(H:Hp)(a:Addr)(xs:List V):Prop:=
 Rd H a (.lst xs) ∨
  ∃(o:Obj) (its:Array Value) (n:Nat),K.lookup a=some o/\o.cls=.type "list" /\ o.dict=none/\o.data=.seq its n/\its.size<=sizeLine/\Vals xs its.toList
noncomputable def SqT(K:W.Frag)(H:Hp)(a:Addr)(xs:List V):Prop:=
 Rd H a (.tup xs) ∨
  ∃(o:Obj) (its:Array Value) (n:Nat),K.lookup a=some o/\o.cls=.type "tuple" /\ o.data=.seq its n/\its.size<=sizeLine/\Vals xs its.toList
noncomputable def absV:Value->Option V
 | .none=>some .non
 | .bool b=>some (.bl b)
 | .int i _=>some (.int i)
 | .str x _=>some (.str x)
 | .bytes b _=>some (.byt b)
 | .float b _=>some (.flt b)
 | .ref a=>some (.ref a)
 | .type n=>some (.ty n)
 | _=>none
theorem RelV.abs{x:V}{u:Value}(r:RelV x u):absV u=some x:=by
 cases x with
 | non=>cases r;rfl
 | bl _=>cases r;rfl
 | int _=>obtain⟨t,rfl⟩:=r;rfl
 | str _=>obtain⟨t,rfl⟩:=r;rfl
 | byt _=>obtain⟨t,rfl⟩:=r;rfl
 | flt _=>obtain⟨t,rfl⟩:=r;rfl
 | ref _=>cases r;rfl
 | ty _=>cases r;rfl
theorem RelV.inj{x y:V}{u:Value}(r:RelV x u)(q:RelV y u):x=y:=Option.some.inj (r.abs.symm.trans q.abs)
theorem Vals.inj:∀{xs ys:List V}{us:List Value},Vals xs us->Vals ys us->xs=ys
 | _,_,_,.nil,.nil=>rfl
 | _,_,_,.cons r t,.cons r' t'=>by rw[r.inj r',Vals.inj t t']
section
variable{X:Cx}{pins:List (Addr×Obj)}{σ:St}{H:Hp}{s:Shared}{a:Addr}{xs ys:List V}
theorem SqL.of{K:W.Frag}(h:H a=some (.lst xs)):SqL K H a xs:=.inl (.inl h)
theorem SqT.of{K:W.Frag}(h:H a=some (.tup xs)):SqT K H a xs:=.inl (.inl h)
theorem Inv.list(I:Inv X pins σ H s)(h:SqL X.K H a xs):∃ its:List Value,Vals xs its/\PlainL s.heap a its.toArray/\xs.length<=sizeLine:=by
 rcases h with h | ⟨o,its,n,hk,hc,hd,hs,hz,r⟩
 · obtain⟨z,its,n,r,e⟩:=h.ok I.hok
   exact⟨its,r,⟨_,n,e,rfl,rfl,rfl⟩,z⟩
 refine⟨its.toList,r,⟨o,n,I.kIn a o hk,hc,hd,by simpa using hs⟩,?_⟩
 have e:=r.length;simp only[Array.length_toList]at e;omega
theorem Inv.tuple(I:Inv X pins σ H s)(h:SqT X.K H a xs):∃ its:List Value,Vals xs its/\IsTup s.heap a its.toArray/\xs.length<=sizeLine:=by
 rcases h with h | ⟨o,its,n,hk,hc,hs,hz,r⟩
 · obtain⟨z,its,r,p⟩:=h.ok I.hok
   exact⟨its,r,p,z⟩
 refine⟨its.toList,r,⟨o,I.kIn a o hk,hc,n,by simpa using hs⟩,?_⟩
 have e:=r.length;simp only[Array.length_toList]at e;omega
theorem Inv.list_inj(I:Inv X pins σ H s)(h:SqL X.K H a xs)(h':SqL X.K H a ys):xs=ys:=by
 obtain⟨its,r,⟨o,n,e,_,_,d⟩,_⟩:=I.list h;obtain⟨its',r',⟨o',n',e',_,_,d'⟩,_⟩:=I.list h';rw[e]at e';cases e';rw[d]at d';injection d' with d1 _;have:its=its':=by simpa using congrArg Array.toList d1
 subst this;exact r.inj r'
end
noncomputable abbrev Cx.wish(X:Cx)(E:Value->Shared->Prop):Cx:={ X with xe:=E }
noncomputable abbrev Cx.nox(X:Cx):Cx:=X.wish fun _ _=>False
theorem Cx.Ok.wish{X:Cx}(ok:X.Ok)(E:Value->Shared->Prop):(X.wish E).Ok:=
 ⟨ok.mod,ok.kind,ok.glob,ok.blt,ok.above,ok.inj,ok.has,ok.cab,ok.hd,ok.frames,ok.stk,ok.exf,ok.bs,ok.bsz,ok.noex,ok.exfs,ok.funs,ok.frf⟩
theorem Cx.Ok.unwish{X:Cx}{E:Value->Shared->Prop}(ok:(X.wish E).Ok):X.Ok:=
 ⟨ok.mod,ok.kind,ok.glob,ok.blt,ok.above,ok.inj,ok.has,ok.cab,ok.hd,ok.frames,ok.stk,ok.exf,ok.bs,ok.bsz,ok.noex,ok.exfs,ok.funs,ok.frf⟩
section
variable{X:Cx}{pins:List (Addr×Obj)}{σ:St}{H:Hp}{s:Shared}{E:Value->Shared->Prop}
theorem Inv.wish(I:Inv X pins σ H s)(E:Value->Shared->Prop):Inv (X.wish E) pins σ H s:=⟨I.ok.wish E,I.os,I.bare,I.base,I.loc,I.cell,I.free,I.freeC,I.pin,I.hok,I.len⟩
theorem Inv.unwish(I:Inv (X.wish E) pins σ H s):Inv X pins σ H s:=⟨I.ok.unwish,I.os,I.bare,I.base,I.loc,I.cell,I.free,I.freeC,I.pin,I.hok,I.len⟩
theorem SP.unwish{D:Ends}{f:Flow}{s':Shared}(h:SP (X.wish E) pins D f s'):SP X pins D f s':=by
 cases f with
 | next=>obtain⟨σ',H',I,q⟩:=h;exact⟨σ',H',I.unwish,q⟩
 | brk=>obtain⟨σ',H',I,q⟩:=h;exact⟨σ',H',I.unwish,q⟩
 | cont=>obtain⟨σ',H',I,q⟩:=h;exact⟨σ',H',I.unwish,q⟩
 | ret u=>obtain⟨v,σ',H',I,r,q⟩:=h;exact⟨v,σ',H',I.unwish,r,q⟩
theorem PSs.nox{st:List Stmt}{t:TS}(h:PSs X.nox st t):PSs X st t:=fun pins s σ H D I hw=>
 wpAny_mono (h pins s σ H D (I.wish _) hw) (fun _ _ q=>q.unwish) fun _ _ z=>False.elim z
end
section
variable{X:Cx}{st:Stmt}{rest:List Stmt}{t u:TS}{e:Expr}{te:TE}{pos:Pos}
noncomputable def tNext:TS:=fun D σ H=>D.nx σ H
noncomputable def tSeq(t u:TS):TS:=fun D σ H=>t { D with nx:=u D } σ H
theorem pss_nil:PSs X [] tNext:=fun _ _ σ H _ I h=>wpAny_execs_nil ⟨σ,H,I,h⟩
theorem pss_cons(h1:PS X st t)(h2:PSs X rest u):PSs X (st::rest) (tSeq t u):=by
 intro pins s σ H D I h;refine wpAny_execs_cons (thn (h1 pins s σ H { D with nx:=u D } I h) fun f s1 q=>?_);cases f with
 | next=>
   obtain⟨σ',H',I',q⟩:=q;exact h2 pins s1 σ' H' D I' q
 | ret v=>exact q
 | brk=>exact q
 | cont=>exact q
theorem pss_one(h1:PS X st t):PSs X [st] t:=by
 intro pins s σ H D I h;refine wpAny_execs_cons (thn (h1 pins s σ H D I h) fun f s1 q=>?_);cases f with
 | next=>exact wpAny_execs_nil q
 | ret v=>exact q
 | brk=>exact q
 | cont=>exact q
theorem Inv.quiet{pins:List (Addr×Obj)}{σ:St}{H:Hp}{s:Shared}(I:Inv X pins σ H s):interactive X.env=false:=by simp[interactive,I.ok.kind]
noncomputable def tDrop(te:TE):TS:=fun D σ H=>te σ H fun _ H1=>D.nx σ H1
theorem ps_expr(he:PE X e te)(hs:swapsWith e none pos.line X.env=pure false:=by rfl):PS X (.Expr e pos) (tDrop te):=by
 intro pins s σ H D I h;exact wpAny_Expr_any (thn (he pins s σ H _ I h) fun v s1 ⟨x,H1,I1,r1,q1⟩=>⟨σ,H1,I1,q1⟩) I.quiet hs
noncomputable def tRet(te:TE):TS:=fun D σ H=>te σ H D.rt
theorem ps_ret(he:PE X e te):PS X (.Return (some e) pos) (tRet te):=by
 intro pins s σ H D I h;exact wpAny_Return_some (thn (he pins s σ H _ I h) fun v s1 ⟨x,H1,I1,r1,q1⟩=>⟨x,σ,H1,I1,r1,q1⟩)
noncomputable def tIfS(c:TT)(t u:TS):TS:=fun D σ H=>c σ H fun b H1=>if b=true then t D σ H1 else u D σ H1
theorem ps_if{c:Expr}{a b:List Stmt}{tc:TT}(hc:PT X c tc)(ha:PSs X a t)(hb:PSs X b u):PS X (.If c a b pos) (tIfS tc t u):=by
 intro pins s σ H D I h;refine wpAny_If (thn (hc pins s σ H _ I h) fun d s1 zz=>?_);obtain⟨H1,I1,q1⟩:=zz;cases d with
 | true=>exact ha pins s1 σ H1 D I1 q1
 | false=>exact hb pins s1 σ H1 D I1 q1
noncomputable def tNever:TS:=fun _ _ _=>False
theorem ps_never:PS X st tNever:=fun _ _ _ _ _ _ h=>h.elim
end
noncomputable abbrev TG:=V->St->Hp->(St->Hp->Prop)->Prop
noncomputable def PG(X:Cx)(target:Expr)(t:TG):Prop:=
 ∀(pins:List (Addr×Obj)) (s:Shared) (σ:St) (H:Hp) (v:V) (u:Value) (Q:St->Hp->Prop),Inv X pins σ H s->RelV v u->t v σ H Q ->
   wpAny (model X.prog X.w) X.A (assign target X.env u) (fun _ s'=>∃ σ' H',Inv X pins σ' H' s'/\Q σ' H') X.xe s
noncomputable abbrev TSet:=V->V->V->Hp->(Hp->Prop)->Prop
noncomputable def PSet(X:Cx)(t:TSet):Prop:=
 ∀(pins:List (Addr×Obj)) (s:Shared) (σ:St) (H:Hp) (o i v:V) (ov iv u:Value) (Q:Hp->Prop),Inv X pins σ H s->RelV o ov->RelV i iv->RelV v u->t o i v H Q ->
   wpAny (model X.prog X.w) X.A (setItem ov iv u) (fun _ s'=>∃ H',Inv X pins σ H' s'/\Q H') X.xe s
section
variable{X:Cx}{pos:Pos}
noncomputable def gName(i:Nat):TG:=fun v σ H Q=>Q (σ.set i (some v)) H
theorem pg_name{i:Nat}{x:Str}(hN:X.N.Nodup)(hi:X.N[i]?=some x)(hx:Loc X.env.scope x)(hf:X.fn x=true∨X.env.scope.names.lookup x=some .local:=by first | exact .inl rfl | exact .inr rfl | assumption):PG X (.Name x pos) (gName i):=by
 intro pins s σ H v u Q I r h;exact wpAny_assign_Name (store_ok I hN hi hx r (fun s' I'=>⟨_,H,I',h⟩) hf)
noncomputable def gSub(to ti:TE)(t:TSet):TG:=fun v σ H Q=>to σ H fun o H1=>ti σ H1 fun i H2=>t o i v H2 fun H3=>Q σ H3
theorem pg_sub{o i:Expr}{to ti:TE}{t:TSet}(ho:PE X o to)(hi:PE X i ti)(hs:PSet X t)
 (ha:∀ v,assign (.Subscript o i pos) X.env v=(do
  let ov ← holding [v] (eval o X.env)
  let iv ← holding [v,ov] (eval i X.env)
  standAt pos
  holding [v,ov,iv] (setItem ov iv v)
  release [v,ov,iv] []):=by intro _;rfl):PG X (.Subscript o i pos) (gSub to ti t):=by
 intro pins s σ H v u Q I r h;rw[ha];refine wpAny_bind (wpAny_holding (thn (ho pins s σ H _ I h) fun ov s1 zz=>?_));obtain⟨x,H1,I1,r1,q1⟩:=zz;refine wpAny_bind (wpAny_holding (thn (hi pins s1 σ H1 _ I1 q1) fun iv s2 zz=>?_));obtain⟨y,H2,I2,r2,q2⟩:=zz;refine wpAny_bind (wpAny_standAt (wpAny_bind (wpAny_holding (thn (hs pins s2 σ H2 x y v ov iv u _ I2 r1 r2 r q2) fun _ s3 zz=>?_))));obtain⟨H3,I3,q3⟩:=zz;exact wpAny_release ⟨σ,H3,I3,q3⟩
noncomputable def tAsg(te:TE)(g:TG):TS:=fun D σ H=>te σ H fun x H1=>g x σ H1 D.nx
theorem ps_asg{tg e:Expr}{te:TE}{g:TG}(he:PE X e te)(hg:PG X tg g)(hs:swapsWithSole [tg] e pos.line X.env=pure false:=by rfl)(hw:swappedStores [tg] e X.env=pure none:=by rfl)
 (h1:(assignEach [tg] X.env).map (·.2)=[assign tg X.env]:=by rfl):PS X (.Assign [tg] e pos) (tAsg te g):=by
 intro pins s σ H D I h;refine wpAny_Assign_stores (thn (he pins s σ H _ I h) fun v s1 ⟨x,H1,I1,r1,q1⟩=>?_) hs hw;rw[h1];exact thn (hg pins s1 σ H1 x v _ I1 r1 q1) fun _ s2 q=>q
theorem ps_set{i:Nat}{x:Str}{e:Expr}{te:TE}{pos':Pos}(hN:X.N.Nodup)(hi:X.N[i]?=some x)(hx:Loc X.env.scope x)(he:PE X e te)(hs:swapsWith e (some (.Name x pos')) pos.line X.env=pure false:=by rfl)(hf:X.fn x=true∨X.env.scope.names.lookup x=some .local:=by first | exact .inl rfl | exact .inr rfl | assumption) :
 PS X (.Assign [.Name x pos'] e pos) (tAsg te (gName i)):=by
 intro pins s σ H D I h;refine wpAny_Assign_Name (thn (he pins s σ H _ I h) fun v s1 ⟨y,H1,I1,r1,q1⟩=>?_) hs;exact store_ok I1 hN hi hx r1 (fun s2 I2=>⟨_,H1,I2,q1⟩) hf
end
section
variable{X:Cx}{pos:Pos}
end
structure It where
 go:Nat->Hp->Prop
 yld:Nat->Hp->V->Hp->Prop
 stop:Nat->Hp->Prop
noncomputable def FpOk(X:Cx)(pins:List (Addr×Obj))(H:Hp)(b:Addr):Prop:=
 H b=none/\b≠X.env.locals/\b∉X.fs/\(b∈X.ex∨X.s₀.heap.objs.size<=b)/\(∀ x c,X.env.cells.lookup x=some c->c≠b) /\ ∀ p∈X.pn++pins,p.1≠b
theorem Inv.fpOk{X:Cx}{pins:List (Addr×Obj)}{σ:St}{H H':Hp}{s:Shared}{b:Addr}(I:Inv X pins σ H s)(hb:s.heap.objs.size<=b)(hn:H' b=none):FpOk X pins H' b:=by
 refine⟨hn,Nat.ne_of_gt (Nat.lt_of_lt_of_le I.lt hb),I.nofs hb,.inr (Nat.le_trans I.sz hb),fun x c e z=>?_,fun p hp z=>?_⟩
 · obtain⟨v,q⟩:=I.cell x c e
   exact absurd (Nat.lt_of_lt_of_le q.lt (by rw[z];exact hb)) (Nat.lt_irrefl _)
 exact absurd (Nat.lt_of_lt_of_le (Heap.lt_size (I.pin p hp).1) (by rw[z];exact hb)) (Nat.lt_irrefl _)
structure Turn(P:Program)(w:World)(K:W.Frag)(tg:Expr)(J:It)(fp:List Addr)(it:Addr)(tn:Nat->Heap->Prop):Prop where
 mem:it∈fp
 obj:∀ i h,tn i h -> ∀ b∈fp,∃ o,h.get? b=some o /\ ∀ v,o.data ≠ .cell v
 keep:∀ i h h',tn i h->(∀ b∈fp,∀ o,h.get? b=some o->h'.get? b=some o)->tn i h'
 item:∀(X:Cx),X.prog=P->X.w=w->X.K=K->X.calm=true -> ∀(i:Nat) (pins:List (Addr×Obj)) (s:Shared) (σ:St) (H:Hp) (E:Value->Shared->Prop),Inv X pins σ H s->(∀ b∈fp,FpOk X pins H b)->tn i s.heap->J.go i H ->
  wpAny (model P w) X.A (pyNext (.ref it)) (fun r s1=>∃ u,r=some u /\
   wpAny (model P w) X.A (letOwnedTupleGo tg (.ref it) u) (fun _ s2=>∃ x H',Inv X pins σ H' s2/\RelV x u/\J.yld i H x H'/\tn (i+1) s2.heap /\ ∀ b∈fp,H' b=none) E s1) E s
 done:∀(X:Cx),X.prog=P->X.w=w->X.K=K->X.calm=true -> ∀(i:Nat) (pins:List (Addr×Obj)) (s:Shared) (σ:St) (H:Hp) (E:Value->Shared->Prop),Inv X pins σ H s->(∀ b∈fp,FpOk X pins H b)->tn i s.heap->J.stop i H ->
  wpAny (model P w) X.A (pyNext (.ref it)) (fun r s1=>r=none/\Inv X pins σ H s1) E s
 self:∀(A:Around) (i:Nat) (s:Shared) (Q:Value->Shared->Prop) (E:Value->Shared->Prop),tn i s.heap->Q (.ref it) s->wpAny (model P w) A (pyIter (.ref it)) Q E s
noncomputable abbrev TI:=St->Hp->(It->Hp->Prop)->Prop
noncomputable def PIE(X:Cx)(pins:List (Addr×Obj))(σ:St)(tg:Expr)(R:It->Hp->Prop)(itv:Value)(s2:Shared):Prop:=
 ∃(it:Addr) (fp:List Addr) (tn:Nat->Heap->Prop) (J:It) (H':Hp),itv=.ref it/\Inv X pins σ H' s2/\Turn X.prog X.w X.K tg J fp it tn/\tn 0 s2.heap/\(∀ b∈fp,FpOk X pins H' b)/\R J H'
noncomputable def PI(X:Cx)(tg iter:Expr)(wi:TI):Prop:=
 ∀(pins:List (Addr×Obj)) (s:Shared) (σ:St) (H:Hp) (R:It->Hp->Prop),Inv X pins σ H s->wi σ H R ->
   wpAny (model X.prog X.w) X.A (eval iter X.env) (fun v s1=>wpAny (model X.prog X.w) X.A (pyIter v) (PIE X pins σ tg R) X.xe s1) X.xe s
theorem go_of{M:Model}{A:Around}{E:Value->Shared->Prop}{s:Shared}{tg:Expr}{it:Addr}{u:Value}{o:Obj}{n:String}{vs:Array Value}{Q:Unit->Shared->Prop}(ho:s.heap.get? it=some o)(hc:o.cls=.type n)(hd:o.data=.fields vs)
 (hn:["enumerate","zip","dict_itemiterator","dict_reverseitemiterator","odict_iterator","itertools.zip_longest","itertools.pairwise"].contains n=false) (hQ:Q () s):wpAny M A (letOwnedTupleGo tg (.ref it) u) Q E s:=by
 unfold letOwnedTupleGo;cases tg <;> first
  | exact wpAny_pure hQ
  | (cases u <;> first
   | exact wpAny_pure hQ
   | (refine wpAny_bind (wpAny_load ho ?_)
      rw[hc,hd];show wpAny M A (if(["enumerate","zip","dict_itemiterator","dict_reverseitemiterator","odict_iterator","itertools.zip_longest","itertools.pairwise"].contains n && vs[0]? == some (rawInt _))=true then _ else _) Q E s;rw[if_neg (by intro h;rw[hn,Bool.false_and]at h;cases h)]
      exact wpAny_pure hQ))
noncomputable def Itl(K:W.Frag)(a:Addr):It:=
 ⟨fun i H=>∃ xs x,SqL K H a xs/\xs[i]?=some x,fun i H x H'=>H'=H /\ ∀ xs,SqL K H a xs->xs[i]?=some x,fun i H=>∃ xs,SqL K H a xs/\xs.length<=i⟩
noncomputable def Itr(lo:Int)(n:Nat):It:=⟨fun i _=>i < n,fun i H x H'=>H'=H/\x=.int (lo+i),fun i _=>n<=i⟩
theorem turn_list{P:Program}{w:World}{K:W.Frag}{tg:Expr}(a it:Addr):Turn P w K tg (Itl K a) [it] it (fun i h=>h.IsListIter it a i) where
 mem:=by simp
 obj:=fun i h st b hb=>by
  have e:b=it:=by simpa using hb
  subst e;obtain⟨o,e,c,d⟩:=st;exact⟨o,e,fun v z=>by rw[d]at z;cases z⟩
 keep:=fun i h h' st k=>st.at fun o e=>k it (by simp) o e
 item:=by
  intro X hP hw hK hc i pins s σ H E I hf st hg;subst hP hw hK;obtain⟨xs,x,hq,hx⟩:=hg;obtain⟨its,rv,p,hz⟩:=I.list hq;obtain⟨u,hu,ru⟩:=rv.get hx;obtain⟨f0,f1,f2,f3,f4,f5⟩:=hf it (by simp)
  refine wpAny_pyNext_list_item st p.isList (x:=u) (by simpa using hu) fun h' st' sb=>?_
  have I1:Inv X pins σ H { s with heap:=h' }:=I.turned (t':=s.toks) (fun b o hb e=>(sb.2 b hb).trans e) f0 f1 f3 f4 f5;obtain⟨o,e,c,d⟩:=id st';exact⟨u,rfl,go_of (s:={ s with heap:=h' }) e c d (by decide) ⟨x,H,I1,ru,⟨rfl,fun ys hy=>by rw[I.list_inj hy hq];exact hx⟩,st',fun b hb=>(hf b hb).1⟩⟩
 done:=by
  intro X hP hw hK hc i pins s σ H E I hf st hg;subst hP hw hK;obtain⟨xs,hq,hx⟩:=hg;obtain⟨its,rv,p,hz⟩:=I.list hq;obtain⟨f0,f1,f2,f3,f4,f5⟩:=hf it (by simp)
  have hl:=rv.length;exact wpAny_pyNext_list_end (I.ok.hd hc) st p.isList (by simp;omega) fun h' eb=>⟨rfl,I.turned (t':=s.toks) (fun b o hb e=>eb b o hb e) f0 f1 f3 f4 f5⟩
 self:=fun _ _ _ _ _ st h=>wpAny_pyIter_listiter st h
theorem turn_range{P:Program}{w:World}{K:PySem.W.Frag}{tg:Expr}(it:Addr)(lo:Int)(n:Nat):Turn P w K tg (Itr lo n) [it] it (fun i h=>IsRangeIter h it (lo+(i:Nat)*1) ((n:Int) - (i:Nat)) 1) where
 mem:=by simp
 obj:=fun i h st b hb=>by
  have e:b=it:=by simpa using hb
  subst e;exact⟨_,st,fun v z=>by
   have z':Data.fields _=Data.cell v:=z;cases z'⟩
 keep:=fun i h h' st k=>k it (by simp) _ st
 item:=by
  intro X hP hw hK hc i pins s σ H E I hf st hg;subst hP hw hK;obtain⟨f0,f1,f2,f3,f4,f5⟩:=hf it (by simp)
  have W:=Walks.range (prog:=X.prog) (w:=X.w) (I.ok.hd hc) it lo 1 n;refine W.item i s _ _ hg st fun v h' tk hv st' kk=>?_;obtain⟨t,rfl⟩:=hv;have I1:Inv X pins σ H { s with heap:=h',toks:=tk }:=I.turned (fun b o hb e=>kk b o (by simpa using hb) e) f0 f1 f3 f4 f5
  refine⟨_,rfl,go_of (s:={ s with heap:=h',toks:=tk }) (n:="range_iterator") st' rfl rfl (by decide) ⟨.int (lo+i),H,I1,⟨t,?_⟩,⟨rfl,rfl⟩,st',fun b hb=>(hf b hb).1⟩⟩
  rw[Int.mul_one]
 done:=by
  intro X hP hw hK hc i pins s σ H E I hf st hg;subst hP hw hK;obtain⟨f0,f1,f2,f3,f4,f5⟩:=hf it (by simp)
  exact wpAny_pyNext_range_end (I.ok.hd hc) st (by have:n<=i:=hg;omega) fun h' eb=>⟨rfl,I.turned (t':=s.toks) (fun b o hb e=>eb b o hb e) f0 f1 f3 f4 f5⟩
 self:=fun _ _ _ _ _ st h=>wpAny_pyIter_rangeiter st h
end L2
namespace L2
open PySem PySem.Spec PyProof.Rows
section
variable{X:Cx}{tg:Expr}
noncomputable def iList(K:W.Frag)(tl:TE):TI:=fun σ H R=>tl σ H fun x H1=>∃ a,x=.ref a/\(∃ xs,SqL K H1 a xs)/\R (Itl K a) H1
theorem pi_list{l:Expr}{tl:TE}(hl:PE X l tl):PI X tg l (iList X.K tl):=by
 intro pins s σ H R I h;refine thn (hl pins s σ H _ I h) fun v s1 zz=>?_;obtain⟨x,H1,I1,r1,q1⟩:=zz;obtain⟨a,e,⟨xs,hq⟩,q⟩:=q1;subst e;cases r1;obtain⟨its,rv,p,hz⟩:=I1.list hq;refine wpAny_pyIter_list p.isList ?_;refine⟨s1.heap.objs.size,[s1.heap.objs.size],_,_,H1,rfl,I1.kept (t':=s1.toks) fun b o e=>Heap.get?_push_of_some _ e,turn_list a _,⟨_,Heap.get?_push_size _ rfl,rfl,rfl⟩,fun b hb=>?_,q⟩;have e:b=s1.heap.objs.size:=by simpa using hb
 subst e;exact I1.fpOk (Nat.le_refl _) (I1.hok.fresh (Nat.le_refl _))
theorem range_it{pins:List (Addr×Obj)}{σ:St}{H:Hp}{s:Shared}{R:It->Hp->Prop}{E:Value->Shared->Prop}{lo hi:Int}{t u v:Tok}{tk:Nat}(I:Inv X pins σ H s)(h1:-(2 ^ 62)<=lo)(h2:lo < 2 ^ 62)(h3:-(2 ^ 62)<=hi)(h4:hi < 2 ^ 62)
 (q:R (Itr lo (hi - lo).toNat) H):wpAny (model X.prog X.w) X.A (pyIter (.ref s.heap.objs.size)) (PIE X pins σ tg R) E { s with heap:=s.heap.push { cls:=.type "range",data:=.fields #[.int lo t,.int hi u,.int 1 v] },toks:=tk }:=by
 refine wpAny_pyIter_range (IsRange.new ..) (small_one h1 h2 h3 h4) ?_;have I1:Inv X pins σ H { s with heap:=s.heap.push { cls:=.type "range",data:=.fields #[.int lo t,.int hi u,.int 1 v] },toks:=tk }:=I.kept fun b o e=>Heap.get?_push_of_some _ e;refine⟨(s.heap.push { cls:=.type "range",data:=.fields #[.int lo t,.int hi u,.int 1 v] }).objs.size,[(s.heap.push { cls:=.type "range",data:=.fields #[.int lo t,.int hi u,.int 1 v] }).objs.size],_,_,H,rfl,
  I1.kept (t':=tk) fun b o e=>Heap.get?_push_of_some _ e,turn_range _ lo (hi - lo).toNat,?_,fun b hb=>?_,q⟩
 · have e1:lo+((0:Nat):Int)*1=lo:=by simp
   have e2:(((hi - lo).toNat:Nat):Int) - ((0:Nat):Int)=Builtin.Range.rangeSize lo hi 1:=by rw[rangeSize_one];split <;> omega
   show IsRangeIter _ _ (lo+((0:Nat):Int)*1) ((((hi - lo).toNat:Nat):Int) - ((0:Nat):Int)) 1;rw[e1,e2];exact Heap.get?_push_size _ rfl
 have e:b=(s.heap.push { cls:=.type "range",data:=.fields #[.int lo t,.int hi u,.int 1 v] }).objs.size:=by simpa using hb
 subst e;exact I1.fpOk (Nat.le_refl _) (I1.hok.fresh (Nat.le_refl _))
noncomputable def iRng1(ta:TA):TI:=fun σ H R=>ta σ H fun vs H1=>∃ j:Int,vs=[.int j] /\ -(2 ^ 62)<=j/\j < 2 ^ 62/\R (Itr 0 j.toNat) H1
theorem pi_range1{a:Expr}{ta:TA}{p pos:Pos}(hg:Gl X "range")(hm:X.mg "range"=none)(ha:PA X [a] ta)(hs:starEach [a] X.env=[(false,eval a X.env)]:=by rfl):PI X tg (.Call (.Name "range" p) [a] [] pos) (iRng1 ta):=by
 intro pins s σ H R I h;refine Call_ (ld_blt I hg hm boot_range (PyProof.Rows.callWith_type1 (thn (ha pos pins s σ H _ I h) fun us s1 ⟨vs,H1,I1,r1,q1⟩=>?_) hs rfl));obtain⟨j,e,q1,q2,q⟩:=q1;subst e;cases r1 with
 | cons r rr=>
   cases rr;obtain⟨t,rfl⟩:=r;exact call_range_1 (range_it I1 (by omega) (by omega) q1 q2 (by simpa using q))
noncomputable def tFor(wi:TI)(g:TG)(tb:TS):TS:=fun D σ H=>wi σ H fun J H1=>∃ W:Nat->Nat->St->Hp->Prop,(∃ m,W 0 m σ H1) /\ ∀ i m σ H,W i m σ H ->
 (J.stop i H/\D.nx σ H)∨(J.go i H /\ ∃ N:St->Hp->Prop,(∀ σ' H',N σ' H' -> ∃ m',m' < m/\W (i+1) m' σ' H') /\ ∀ x H',J.yld i H x H'->g x σ H' fun σ2 H2=>tb { D with nx:=N,ct:=N,bk:=D.nx } σ2 H2)
noncomputable def pinsAt(fp:List Addr)(h:Heap):List (Addr×Obj):=fp.filterMap fun b=>(h.get? b).map fun o=>(b,o)
theorem mem_pinsAt{fp:List Addr}{h:Heap}{b:Addr}{o:Obj}(hb:b∈fp)(e:h.get? b=some o):(b,o)∈pinsAt fp h:=List.mem_filterMap.mpr ⟨b,hb,by rw[e];rfl⟩
theorem of_pinsAt{fp:List Addr}{h:Heap}{p:Addr×Obj}(hp:p∈pinsAt fp h):p.1∈fp/\h.get? p.1=some p.2:=by
 obtain⟨b,hb,e⟩:=List.mem_filterMap.mp hp;cases q:h.get? b with
 | none=>rw[q]at e;cases e
 | some o=>
   rw[q]at e;have e':(b,o)=p:=Option.some.inj e;subst e';exact⟨hb,q⟩
theorem Inv.pinned{pins:List (Addr×Obj)}{σ:St}{H:Hp}{s:Shared}{fp:List Addr}(I:Inv X pins σ H s)(hf:∀ b∈fp,FpOk X pins H b)(ho:∀ b∈fp,∃ o,s.heap.get? b=some o /\ ∀ v,o.data ≠ .cell v):Inv X (pins++pinsAt fp s.heap) σ H s:=
 I.pins_of fun p hp=>(List.mem_append.mp hp).elim (fun z=>I.pin p (List.mem_append_right _ z)) fun z=>by
  obtain⟨hb,e⟩:=of_pinsAt z;obtain⟨f0,f1,f2,_⟩:=hf p.1 hb;obtain⟨o,e',d⟩:=ho p.1 hb;rw[e]at e';cases e';exact⟨e,f0,f1,f2,d⟩
theorem Inv.unpinned{pins pl:List (Addr×Obj)}{σ:St}{H:Hp}{s:Shared}(I:Inv X (pins++pl) σ H s):Inv X pins σ H s:=I.pins_of fun p hp=>I.pin p (List.mem_append_right _ (List.mem_append_left _ hp))
theorem ps_for{iter:Expr}{body:List Stmt}{wi:TI}{g:TG}{tb:TS}{pos:Pos}(hp:PassesOwn (model X.prog X.w) X.A X.env X.xe)(hc:X.calm=true)(hi:PI X tg iter wi)(hg:PG X tg g)(hb:PSs X body tb)
 (hs:∀ x,foldedSetIterable iter X.env x=pure x:=by intro _;rfl):PS X (.For tg iter body [] pos) (tFor wi g tb):=by
 intro pins s σ H D I h;refine wpAny_For (thn (hi pins s σ H _ I h) fun v s1 h1=>thn h1 fun itv s2 h2=>?_) hs;obtain⟨it,fp,tn,J,H2,e,I2,T,st2,f2,W,⟨m0,w0⟩,turn⟩:=h2;subst e
 -- what stays true of the iterator's objects through the loop
 have stat:∀{H':Hp},(∀ b∈fp,H' b=none) -> ∀ b∈fp,FpOk X pins H' b:=fun hn b hb=>⟨hn b hb,(f2 b hb).2⟩;refine codeAny_forLoop_any (fun n s'=>∃ i σ' H',Inv X pins σ' H' s'/\tn i s'.heap/\(∀ b∈fp,H' b=none)/\W i n σ' H') ?_ m0 ⟨0,σ,H2,I2,st2,fun b hb=>(f2 b hb).1,w0⟩;rintro n s3 ⟨i,σ3,H3,I3,st3,fr3,w3⟩;rcases turn i n σ3 H3 w3 with ⟨stop,qn⟩ | ⟨go,N,hN,step⟩
 · refine wpAny_passesOwn hp (thn (T.done X rfl rfl rfl hc i pins s3 σ3 H3 X.xe I3 (stat fr3) st3 stop) fun r s4 zz=>?_)
   obtain⟨hr,I4⟩:=zz;subst hr;exact wpAny_execs_nil ⟨σ3,H3,I4,qn⟩
 refine wpAny_passesOwn hp (thn (T.item X rfl rfl rfl hc i pins s3 σ3 H3 X.xe I3 (stat fr3) st3 go) fun r s4 zz=>?_);obtain⟨u,hr,h4⟩:=zz;subst hr;refine wpAny_passesOwn hp (thn h4 fun _ s5 zz=>?_);obtain⟨x,H5,I5,r5,y5,st5,fr5⟩:=zz;have I5':=I5.pinned (stat fr5) (T.obj _ _ st5);refine wpAny_passesOwn hp (thn (hg _ s5 σ3 H5 x u _ I5' r5 (step x H5 y5)) fun _ s6 zz=>?_);obtain⟨σ6,H6,I6,q6⟩:=zz;refine wpAny_passesOwn hp (thn (hb _ s6 σ6 H6 _ I6 q6) fun f s7 q7=>?_);have again:∀{σ7:St}{H7:Hp},Inv X (pins++pinsAt fp s5.heap) σ7 H7 s7->N σ7 H7 -> ∃ m,m < n /\ ∃ i σ' H',Inv X pins σ' H' s7/\tn i s7.heap/\(∀ b∈fp,H' b=none)/\W i m σ' H':=fun {σ7 H7} I7 n7=>by
  obtain⟨m',hm,w7⟩:=hN σ7 H7 n7;refine⟨m',hm,i+1,σ7,H7,I7.unpinned,T.keep _ _ _ st5 fun b hb o e=>(I7.pin (b,o) (List.mem_append_right _ (List.mem_append_right _ (mem_pinsAt hb e)))).1,fun b hb=>?_,w7⟩;obtain⟨o,e,d⟩:=T.obj _ _ st5 b hb;exact(I7.pin (b,o) (List.mem_append_right _ (List.mem_append_right _ (mem_pinsAt hb e)))).2.1
 cases f with
 | next=>obtain⟨σ7,H7,I7,n7⟩:=q7;exact again I7 n7
 | cont=>obtain⟨σ7,H7,I7,n7⟩:=q7;exact again I7 n7
 | brk=>obtain⟨σ7,H7,I7,q7⟩:=q7;exact⟨σ7,H7,I7.unpinned,q7⟩
 | ret v=>obtain⟨x7,σ7,H7,I7,r7,q7⟩:=q7;exact⟨x7,σ7,H7,I7.unpinned,r7,q7⟩
end
theorem for_list{K:PySem.W.Frag}{a:Addr}{xs:List V}{g:TG}{tb:TS}{D:Ends}{σ:St}{H:Hp}(Pv:Nat->St->Hp->Prop)(h0:Pv 0 σ H)(hl:∀ i σ H,i<=xs.length->Pv i σ H->SqL K H a xs)
 (hs:∀ i x σ H,xs[i]?=some x->Pv i σ H->g x σ H fun σ2 H2=>tb { D with nx:=Pv (i+1),ct:=Pv (i+1),bk:=D.nx } σ2 H2) (hd:∀ σ H,Pv xs.length σ H->D.nx σ H) :
 ∃ W:Nat->Nat->St->Hp->Prop,(∃ m,W 0 m σ H) /\ ∀ i m σ H,W i m σ H ->
   ((Itl K a).stop i H/\D.nx σ H)∨((Itl K a).go i H /\ ∃ N:St->Hp->Prop,(∀ σ' H',N σ' H' -> ∃ m',m' < m/\W (i+1) m' σ' H') /\ ∀ x H',(Itl K a).yld i H x H'->g x σ H' fun σ2 H2=>tb { D with nx:=N,ct:=N,bk:=D.nx } σ2 H2):=by
 refine⟨fun i m σ H=>m=xs.length - i/\i<=xs.length/\Pv i σ H,⟨xs.length,by simp,Nat.zero_le _,h0⟩,?_⟩
 rintro i m σ H ⟨rfl,hi,p⟩;have q:=hl i σ H hi p;by_cases hlt:i < xs.length
 · refine .inr ⟨⟨xs,xs[i],q,by simp[hlt]⟩,Pv (i+1),fun σ' H' p'=>⟨xs.length - (i+1),by omega,rfl,hlt,p'⟩,fun x H' y=>?_⟩
   obtain⟨e,y⟩:=y;subst e;exact hs i x σ _ (y xs q) p
 have e:i=xs.length:=by omega
 subst e;exact .inl ⟨⟨xs,q,Nat.le_refl _⟩,hd σ H p⟩
theorem for_range{lo:Int}{n:Nat}{g:TG}{tb:TS}{D:Ends}{σ:St}{H:Hp}(Pv:Nat->St->Hp->Prop)(h0:Pv 0 σ H)
 (hs:∀ i σ H,i < n->Pv i σ H->g (.int (lo+i)) σ H fun σ2 H2=>tb { D with nx:=Pv (i+1),ct:=Pv (i+1),bk:=D.nx } σ2 H2) (hd:∀ σ H,Pv n σ H->D.nx σ H) :
 ∃ W:Nat->Nat->St->Hp->Prop,(∃ m,W 0 m σ H) /\ ∀ i m σ H,W i m σ H ->
   ((Itr lo n).stop i H/\D.nx σ H)∨((Itr lo n).go i H /\ ∃ N:St->Hp->Prop,(∀ σ' H',N σ' H' -> ∃ m',m' < m/\W (i+1) m' σ' H') /\ ∀ x H',(Itr lo n).yld i H x H'->g x σ H' fun σ2 H2=>tb { D with nx:=N,ct:=N,bk:=D.nx } σ2 H2):=by
 refine⟨fun i m σ H=>m=n - i/\i<=n/\Pv i σ H,⟨n,by simp,Nat.zero_le _,h0⟩,?_⟩
 rintro i m σ H ⟨rfl,hi,p⟩;by_cases hlt:i < n
 · refine .inr ⟨hlt,Pv (i+1),fun σ' H' p'=>⟨n - (i+1),by omega,rfl,hlt,p'⟩,fun x H' y=>?_⟩
   obtain⟨e,y⟩:=y;subst e y;exact hs i σ _ hlt p
 have e:i=n:=by omega
 subst e;exact .inl ⟨Nat.le_refl _,hd σ H p⟩
end L2
namespace L2
open PySem PySem.Spec PyProof.Rows
noncomputable abbrev R2:=V->V->Hp->VK->Prop
noncomputable def OpR(X:Cx)(f:Value->Value->Sem Value)(r:R2):Prop:=
 ∀(pins:List (Addr×Obj)) (s:Shared) (σ:St) (H:Hp) (x y:V) (v u:Value) (Q:VK),Inv X pins σ H s->RelV x v->RelV y u->r x y H Q ->
   wpAny (model X.prog X.w) X.A (f v u) (EP X pins σ Q) X.xe s
noncomputable def UnR(X:Cx)(f:Value->Sem Value)(r:V->Hp->VK->Prop):Prop:=
 ∀(pins:List (Addr×Obj)) (s:Shared) (σ:St) (H:Hp) (x:V) (v:Value) (Q:VK),Inv X pins σ H s->RelV x v->r x H Q ->
   wpAny (model X.prog X.w) X.A (f v) (EP X pins σ Q) X.xe s
noncomputable def CallR(X:Cx)(f:Value)(r:List V->Hp->VK->Prop):Prop:=
 ∀(pins:List (Addr×Obj)) (s:Shared) (σ:St) (H:Hp) (xs:List V) (us:List Value) (Q:VK),Inv X pins σ H s->Vals xs us->r xs H Q ->
   wpAny (model X.prog X.w) X.A (call f us) (EP X pins σ Q) X.xe s
noncomputable def tOp(r:R2)(ta tb:TE):TE:=fun σ H Q=>ta σ H fun x H1=>tb σ H1 fun y H2=>r x y H2 Q
noncomputable def tUn(r:V->Hp->VK->Prop)(ta:TE):TE:=fun σ H Q=>ta σ H fun x H1=>r x H1 Q
noncomputable def rI(C:Int->Int->Prop)(g:Int->Int->V):R2:=fun x y H Q=>∃ i j,x=.int i/\y=.int j/\C i j/\Q (g i j) H
noncomputable def rI0(g:Int->Int->V):R2:=fun x y H Q=>∃ i j,x=.int i/\y=.int j/\Q (g i j) H
noncomputable def rU(g:Int->V):V->Hp->VK->Prop:=fun x H Q=>∃ i,x=.int i/\Q (g i) H
section
variable{X:Cx}{a b c:Expr}{ta tb tc:TE}{pos:Pos}
theorem binT(ha:PE X a ta)(hb:PE X b tb){pins:List (Addr×Obj)}{s:Shared}{σ:St}{H:Hp}{R:V->V->Hp->Prop}(I:Inv X pins σ H s)
 (h:ta σ H fun x H1=>tb σ H1 fun y H2=>R x y H2) {Q:Value->Shared->Prop}{f:Value->Value->Sem Value}
 (hf:∀ v u s2 x y H2,Inv X pins σ H2 s2->RelV x v->RelV y u->R x y H2->wpAny (model X.prog X.w) X.A (f v u) Q X.xe s2) :
 wpAny (model X.prog X.w) X.A (eval a X.env) (fun v s₁=>wpAny (model X.prog X.w) X.A (eval b X.env) (fun u s₂=>wpAny (model X.prog X.w) X.A (f v u) Q X.xe s₂) X.xe s₁) X.xe s:=by
 refine thn (ha pins s σ H _ I h) fun v s1 zz=>?_;obtain⟨x,H1,I1,r1,q1⟩:=zz;refine thn (hb pins s1 σ H1 _ I1 q1) fun u s2 zz=>?_;obtain⟨y,H2,I2,r2,q2⟩:=zz;exact hf v u s2 x y H2 I2 r1 r2 q2
theorem pe_op{op:Operator}{r:R2}(ho:OpR X (binaryOp op) r)(ha:PE X a ta)(hb:PE X b tb):PE X (.BinOp a op b pos) (tOp r ta tb):=by
 intro pins s σ H Q I h;exact wpAny_BinOp (binT ha hb I h fun v u s2 x y H2 I2 rx ry q=>ho pins s2 σ H2 x y v u Q I2 rx ry q)
theorem pe_un{op:UnaryOp}{r:V->Hp->VK->Prop}(ho:UnR X (unaryOp op) r)(ha:PE X a ta):PE X (.UnaryOp op a pos) (tUn r ta):=by
 intro pins s σ H Q I h;exact UnaryOp_ (thn (ha pins s σ H _ I h) fun v s1 ⟨x,H1,I1,r1,q1⟩=>ho pins s1 σ H1 x v Q I1 r1 q1)
theorem opI{f:Value->Value->Sem Value}{C:Int->Int->Prop}{g:Int->Int->Int}
 (rule:∀(i j:Int) (t u:Tok) (s:Shared) (Q:Value->Shared->Prop) (E:Value->Shared->Prop),C i j->Q (.int (g i j) s.toks) { s with toks:=s.toks+1 } -> wpAny (model X.prog X.w) X.A (f (.int i t) (.int j u)) Q E s) :
 OpR X f (rI C fun i j=>.int (g i j)):=by
 intro pins s σ H x y v u Q I rx ry h;obtain⟨i,j,rfl,rfl,hc,q⟩:=h;obtain⟨t,rfl⟩:=rx;obtain⟨t',rfl⟩:=ry;exact rule i j t t' s _ _ hc ⟨.int (g i j),H,I.tok _,⟨_,rfl⟩,q⟩
theorem opI0{f:Value->Value->Sem Value}{g:Int->Int->Int}
 (rule:∀(i j:Int) (t u:Tok) (s:Shared) (Q:Value->Shared->Prop) (E:Value->Shared->Prop),Q (.int (g i j) s.toks) { s with toks:=s.toks+1 } -> wpAny (model X.prog X.w) X.A (f (.int i t) (.int j u)) Q E s) :
 OpR X f (rI0 fun i j=>.int (g i j)):=by
 intro pins s σ H x y v u Q I rx ry h;obtain⟨i,j,rfl,rfl,q⟩:=h;obtain⟨t,rfl⟩:=rx;obtain⟨t',rfl⟩:=ry;exact rule i j t t' s _ _ ⟨.int (g i j),H,I.tok _,⟨_,rfl⟩,q⟩
theorem opB0{f:Value->Value->Sem Value}{g:Int->Int->Bool}
 (rule:∀(i j:Int) (t u:Tok) (s:Shared) (Q:Value->Shared->Prop) (E:Value->Shared->Prop),Q (.bool (g i j)) s->wpAny (model X.prog X.w) X.A (f (.int i t) (.int j u)) Q E s) :
 OpR X f (rI0 fun i j=>.bl (g i j)):=by
 intro pins s σ H x y v u Q I rx ry h;obtain⟨i,j,rfl,rfl,q⟩:=h;obtain⟨t,rfl⟩:=rx;obtain⟨t',rfl⟩:=ry;exact rule i j t t' s _ _ ⟨.bl (g i j),H,I,rfl,q⟩
noncomputable def CPow(i j:Int):Prop:=0<=j/\j<=1000000/\i.natAbs < 2 ^ 64
noncomputable def CMul(i j:Int):Prop:=(-(2 ^ 64) < i/\i < 2 ^ 64)∨(-(2 ^ 64) < j/\j < 2 ^ 64)
theorem CMul.ok{i j:Int}(h:CMul i j):IntMulOk i j:=by
 rcases h with ⟨h1,h2⟩ | ⟨h1,h2⟩
 · exact .of_left (intBits_le_64 h1 h2)
 exact .of_right (intBits_le_64 h1 h2)
theorem op_add:OpR X (binaryOp .Add) (rI0 fun i j=>.int (i+j)):=opI0 fun _ _ _ _ _ _ _ q=>add_int q
theorem op_sub:OpR X (binaryOp .Sub) (rI0 fun i j=>.int (i - j)):=opI0 fun _ _ _ _ _ _ _ q=>sub_int q
theorem op_mul:OpR X (binaryOp .Mult) (rI CMul fun i j=>.int (i*j)):=opI fun _ _ _ _ _ _ _ hc q=>mul_int q hc.ok
theorem op_mod:OpR X (binaryOp .Mod) (rI (fun _ j=>0 < j) fun i j=>.int (i % j)):=opI fun i j _ _ _ _ _ hc q=>by
 have h1:(0:Int) < j:=hc;exact mod_int' (by omega) (by rw[Int.fmod_eq_emod_of_nonneg i (by omega)];exact q)
theorem op_pow:OpR X (binaryOp .Pow) (rI CPow fun i j=>.int (i ^ j.toNat)):=opI fun _ _ _ _ _ _ _ hc q=>pow_int_small hc.1 hc.2.1 hc.2.2 q
theorem unI{f:Value->Sem Value}{g:Int->Int}
 (rule:∀(i:Int) (t:Tok) (s:Shared) (Q:Value->Shared->Prop) (E:Value->Shared->Prop),Q (.int (g i) s.toks) { s with toks:=s.toks+1 } -> wpAny (model X.prog X.w) X.A (f (.int i t)) Q E s) :
 UnR X f (rU fun i=>.int (g i)):=by
 intro pins s σ H x v Q I rx h;obtain⟨i,rfl,q⟩:=h;obtain⟨t,rfl⟩:=rx;exact rule i t s _ _ ⟨.int (g i),H,I.tok _,⟨_,rfl⟩,q⟩
theorem un_neg:UnR X (unaryOp .USub) (rU fun i=>.int (-i)):=unI fun _ _ _ _ _ q=>neg_int q
end
noncomputable def scal:V->V->Bool
 | .non,.non=>true | .non,.int _=>true | .int _,.non=>true | .non,.bl _=>true | .bl _,.non=>true | .non,.str _=>true | .str _,.non=>true
 | .int _,.int _=>true | .bl _,.bl _=>true | .str _,.str _=>true | .byt _,.byt _=>true
 | .int _,.str _=>true | .str _,.int _=>true | .bl _,.str _=>true | .str _,.bl _=>true
 | _,_=>false
noncomputable def rEq:R2:=fun x y H Q=>scal x y=true/\Q (.bl (decide (x=y))) H
noncomputable def rNe:R2:=fun x y H Q=>scal x y=true/\Q (.bl (!decide (x=y))) H
theorem dec_int{i j:Int}:decide (V.int i=V.int j)=(i == j):=by
 rw[Bool.eq_iff_iff];simp
theorem dec_bl{i j:Bool}:decide (V.bl i=V.bl j)=(i == j):=by
 rw[Bool.eq_iff_iff];simp
theorem dec_str{i j:Str}:decide (V.str i=V.str j)=(i == j):=by
 rw[Bool.eq_iff_iff];simp
theorem dec_byt{i j:Array UInt8}:decide (V.byt i=V.byt j)=(i.toList == j.toList):=by
 rw[Bool.eq_iff_iff];cases i;cases j;simp
section
variable{X:Cx}{a b c:Expr}{ta tb tc:TE}{pos:Pos}
theorem fin_bl{pins:List (Addr×Obj)}{σ:St}{H:Hp}{s:Shared}{Q:VK}{k k':Bool}(I:Inv X pins σ H s)(q:Q (.bl k) H)(e:k=k'):EP X pins σ Q (.bool k') s:=by
 subst e;exact⟨.bl k,H,I,rfl,q⟩
theorem op_eq:OpR X (compareOp .Eq) rEq:=by
 intro pins s σ H x y v u Q I rx ry h;obtain⟨hs,q⟩:=h;cases x with
 | non=>
   cases rx;cases y with
   | non=>cases ry;exact PySem.EqNone.eq_none_none (fin_bl I q (by simp))
   | bl j=>cases ry;exact PySem.EqNone.eq_none_bool (fin_bl I q (by simp))
   | int j=>obtain⟨t',rfl⟩:=ry;exact PySem.EqNone.eq_none_int (fin_bl I q (by simp))
   | str j=>obtain⟨t',rfl⟩:=ry;exact PySem.EqNone.eq_none_str (fin_bl I q (by simp))
   | _=>exact absurd (show false=true from hs) Bool.false_ne_true
 | bl i=>
   cases rx;cases y with
   | non=>cases ry;exact PySem.EqNone.eq_bool_none (fin_bl I q (by simp))
   | bl j=>cases ry;exact eq_bool (fin_bl I q dec_bl)
   | str j=>obtain⟨t',rfl⟩:=ry;exact PySem.EqMixed.eq_bool_str (fin_bl I q (by simp))
   | _=>exact absurd (show false=true from hs) Bool.false_ne_true
 | int i=>
   obtain⟨t,rfl⟩:=rx;cases y with
   | non=>cases ry;exact PySem.EqNone.eq_int_none (fin_bl I q (by simp))
   | int j=>obtain⟨t',rfl⟩:=ry;exact eq_int (fin_bl I q dec_int)
   | str j=>obtain⟨t',rfl⟩:=ry;exact PySem.EqMixed.eq_int_str (fin_bl I q (by simp))
   | _=>exact absurd (show false=true from hs) Bool.false_ne_true
 | str i=>
   obtain⟨t,rfl⟩:=rx;cases y with
   | non=>cases ry;exact PySem.EqNone.eq_str_none (fin_bl I q (by simp))
   | bl j=>cases ry;exact PySem.EqMixed.eq_str_bool (fin_bl I q (by simp))
   | int j=>obtain⟨t',rfl⟩:=ry;exact PySem.EqMixed.eq_str_int (fin_bl I q (by simp))
   | str j=>obtain⟨t',rfl⟩:=ry;exact eq_str (fin_bl I q dec_str)
   | _=>exact absurd (show false=true from hs) Bool.false_ne_true
 | byt i=>
   obtain⟨t,rfl⟩:=rx;cases y with
   | byt j=>obtain⟨t',rfl⟩:=ry;exact W.eq_bytes (fin_bl I q dec_byt)
   | _=>exact absurd (show false=true from hs) Bool.false_ne_true
 | _=>cases y <;> exact absurd (show false=true from hs) Bool.false_ne_true
theorem op_ne:OpR X (compareOp .NotEq) rNe:=by
 intro pins s σ H x y v u Q I rx ry h;obtain⟨hs,q⟩:=h;cases x with
 | non=>
   cases rx;cases y with
   | non=>cases ry;exact PySem.EqNone.ne_none_none (fin_bl I q (by simp))
   | bl j=>cases ry;exact PySem.EqNone.ne_none_bool (fin_bl I q (by simp))
   | int j=>obtain⟨t',rfl⟩:=ry;exact PySem.EqNone.ne_none_int (fin_bl I q (by simp))
   | str j=>obtain⟨t',rfl⟩:=ry;exact PySem.EqNone.ne_none_str (fin_bl I q (by simp))
   | _=>exact absurd (show false=true from hs) Bool.false_ne_true
 | bl i=>
   cases rx;cases y with
   | non=>cases ry;exact PySem.EqNone.ne_bool_none (fin_bl I q (by simp))
   | bl j=>cases ry;exact ne_bool (fin_bl I q (congrArg not dec_bl))
   | str j=>obtain⟨t',rfl⟩:=ry;exact PySem.EqMixed.ne_bool_str (fin_bl I q (by simp))
   | _=>exact absurd (show false=true from hs) Bool.false_ne_true
 | int i=>
   obtain⟨t,rfl⟩:=rx;cases y with
   | non=>cases ry;exact PySem.EqNone.ne_int_none (fin_bl I q (by simp))
   | int j=>obtain⟨t',rfl⟩:=ry;exact ne_int (fin_bl I q (congrArg not dec_int))
   | str j=>obtain⟨t',rfl⟩:=ry;exact PySem.EqMixed.ne_int_str (fin_bl I q (by simp))
   | _=>exact absurd (show false=true from hs) Bool.false_ne_true
 | str i=>
   obtain⟨t,rfl⟩:=rx;cases y with
   | non=>cases ry;exact PySem.EqNone.ne_str_none (fin_bl I q (by simp))
   | bl j=>cases ry;exact PySem.EqMixed.ne_str_bool (fin_bl I q (by simp))
   | int j=>obtain⟨t',rfl⟩:=ry;exact PySem.EqMixed.ne_str_int (fin_bl I q (by simp))
   | str j=>obtain⟨t',rfl⟩:=ry;exact ne_str (fin_bl I q (congrArg not dec_str))
   | _=>exact absurd (show false=true from hs) Bool.false_ne_true
 | byt i=>
   obtain⟨t,rfl⟩:=rx;cases y with
   | byt j=>obtain⟨t',rfl⟩:=ry;exact W.ne_bytes (fin_bl I q (congrArg not dec_byt))
   | _=>exact absurd (show false=true from hs) Bool.false_ne_true
 | _=>cases y <;> exact absurd (show false=true from hs) Bool.false_ne_true
theorem op_lt:OpR X (compareOp .Lt) (rI0 fun i j=>.bl (decide (i < j))):=opB0 fun _ _ _ _ _ _ _ q=>lt_int q
theorem op_le:OpR X (compareOp .LtE) (rI0 fun i j=>.bl (decide (i<=j))):=opB0 fun _ _ _ _ _ _ _ q=>le_int q
theorem op_ge:OpR X (compareOp .GtE) (rI0 fun i j=>.bl (decide (j<=i))):=opB0 fun _ _ _ _ _ _ _ q=>ge_int q
theorem op_isN:OpR X (compareOp .Is) (fun x y H Q=>y=.non/\Q (.bl (decide (x=.non))) H):=by
 intro pins s σ H x y v u Q I rx ry h;obtain⟨rfl,q⟩:=h;cases ry;refine is_none_gen (fin_bl I q ?_);cases x <;> first
  | (cases rx;rfl)
  | (obtain⟨t,rfl⟩:=rx;rfl)
theorem nomark(b:Expr){op:CmpOp}(h:op ≠ .In:=by decide)(h2:op ≠ .NotIn:=by decide):behindInMarks op b=false:=by
 have e1:(op == CmpOp.In)=false:=by cases op <;> first | rfl | exact absurd rfl h
 have e2:(op == CmpOp.NotIn)=false:=by cases op <;> first | rfl | exact absurd rfl h2
 cases b <;> simp[behindInMarks,e1,e2]
theorem pe_cmpR{op:CmpOp}{r:R2}(ho:OpR X (compareOp op) r)(ha:PE X a ta)(hb:PE X b tb)(hm:behindInMarks op b=false):PE X (.Compare a [op] [b] pos) (tOp r ta tb):=by
 intro pins s σ H Q I h;exact wpAny_Compare1 (binT ha hb I h fun v u s2 x y H2 I2 rx ry q=>ho pins s2 σ H2 x y v u Q I2 rx ry q) hm
noncomputable def tTest(t:TE):TT:=fun σ H Q=>t σ H fun x H'=>∃ k,x=.bl k/\Q k H'
theorem pt_cmpR{op:CmpOp}{r:R2}(ho:OpR X (compareOp op) r)(ha:PE X a ta)(hb:PE X b tb)(hm:behindInMarks op b=false):PT X (.Compare a [op] [b] pos) (tTest (tOp r ta tb)):=by
 intro pins s σ H Q I h;refine wpAny_isTrue_Compare1 (thn (ha pins s σ H _ I h) fun v s1 ⟨x,H1,I1,r1,q1⟩=>thn (hb pins s1 σ H1 _ I1 q1) fun u s2 ⟨y,H2,I2,r2,q2⟩=>
  thn (ho pins s2 σ H2 x y v u _ I2 r1 r2 q2) fun c s3 ⟨z,H3,I3,r3,k,e,q3⟩=>?_) hm
 subst e;cases r3;exact wpAny_truthy_bool ⟨H3,I3,q3⟩
noncomputable def tChain(r r':R2)(ta tb tc:TE):TE:=fun σ H Q=>ta σ H fun x H1=>tb σ H1 fun y H2=>r x y H2 fun z H3=>∃ k,z=.bl k /\
 (if k=true then tc σ H3 fun w' H4=>r' y w' H4 Q else Q (.bl false) H3)
theorem pt_chain{op op':CmpOp}{r r':R2}(ho:OpR X (compareOp op) r)(ho':OpR X (compareOp op') r')(ha:PE X a ta)(hb:PE X b tb)(hc:PE X c tc)
 (hm:lastMarks [op,op'] [b,c]=false:=by with_unfolding_all rfl):PT X (.Compare a [op,op'] [b,c] pos) (tTest (tChain r r' ta tb tc)):=by
 intro pins s σ H Q I h;refine isTrue_chain (thn (ha pins s σ H _ I h) fun v s1 ⟨x,H1,I1,r1,q1⟩=>test_link (thn (hb pins s1 σ H1 _ I1 q1) fun u s2 ⟨y,H2,I2,r2,q2⟩=>
  thn (ho pins s2 σ H2 x y v u _ I2 r1 r2 q2) fun d s3 ⟨z,H3,I3,r3,k,e,q3⟩=>?_)) hm
 subst e;cases r3;refine wpAny_truthy_bool ?_;cases k with
 | false=>
   obtain⟨k',e',q'⟩:=q3;cases e';exact ite_ff ⟨H3,I3,q'⟩
 | true=>
   refine ite_tt (test_last (thn (hc pins s3 σ H3 _ I3 q3) fun w' s4 ⟨z',H4,I4,r4,q4⟩=>thn (ho' pins s4 σ H4 y z' u w' _ I4 r2 r4 q4) fun d' s5 zz=>?_));obtain⟨z2,H5,I5,r5,k2,e2,q5⟩:=zz;subst e2;cases r5;exact wpAny_truthy_bool ⟨H5,I5,q5⟩
theorem line63:(sizeLine:Nat) < 2 ^ 63:=by rw[sizeLine_eq];decide
theorem vals1{x:V}{us:List Value}(r:Vals [x] us):∃ u,us=[u]/\RelV x u:=by
 cases r with
 | cons r1 r2=>cases r2;exact⟨_,rfl,r1⟩
theorem vals2{x y:V}{us:List Value}(r:Vals [x,y] us):∃ u w',us=[u,w']/\RelV x u/\RelV y w':=by
 cases r with
 | cons r1 r2=>
   cases r2 with
   | cons r3 r4=>cases r4;exact⟨_,_,rfl,r1,r3⟩
theorem call_int1:CallR X (.type "int") (fun xs H Q=>(∃ i,xs=[.int i]/\Q (.int i) H) ∨ ∃ k,xs=[.bl k]/\Q (.int (if k then 1 else 0)) H):=by
 intro pins s σ H xs us Q I r h;rcases h with ⟨i,rfl,q⟩ | ⟨k,rfl,q⟩
 · obtain⟨u,rfl,t,rfl⟩:=vals1 r
   exact call_int_int ⟨.int i,H,I,⟨_,rfl⟩,q⟩
 obtain⟨u,rfl,r1⟩:=vals1 r;cases r1;exact call_int_bool ⟨.int (if k then 1 else 0),H,I.tok _,⟨_,rfl⟩,q⟩
theorem call_str_int:CallR X (.type "str") (fun xs H Q=>∃ i,xs=[.int i]/\i.natAbs.log2 < 1920/\Q (.str (toString i)) H):=by
 intro pins s σ H xs us Q I r h;obtain⟨i,rfl,hz,q⟩:=h;obtain⟨u,rfl,t,rfl⟩:=vals1 r;exact PySem.P.str_of_int hz ⟨.str _,H,I.tok _,⟨_,rfl⟩,q⟩
end
end L2
namespace L2
open PySem PySem.Spec PyProof.Rows
structure ObjM(h:Heap)(x dx C:Addr)(mA:Str->Option Value):Prop where
 obj:h.get? x=some (W.instObj C dx)
 ns:h.Ns1 dx mA
 ne:dx≠x
theorem lookIn_ns{h:Heap}{dx:Addr}{mA:Str->Option Value}(n:h.Ns1 dx mA):∃ od,h.get? dx=some od /\ ∀ name,W.lookIn name od=some (mA name):=by
 obtain⟨o,es,ep,ho,hd,hk,_,hm⟩:=n;refine⟨o,ho,fun name=>?_⟩;have e:=hm name;unfold nsFind findBy at e;rw[← Array.find?_toList]at e;unfold W.lookIn;rw[hd]
 dsimp only
 split
 · rename_i y q
   rw[q]at e;exact congrArg some e
 rename_i q;rw[q]at e;have a:es.toList.any (·.refKey)=false:=by
  rw[List.any_eq_false];intro y hy;obtain⟨z,t,hkey⟩:=hk y (Array.mem_toList_iff.mp hy);simp[DictEntry.refKey,hkey]
 have a':¬ es.toList.any (·.refKey)=true:=by rw[a];exact Bool.false_ne_true
 rw[if_neg a'];exact congrArg some e
theorem ObjM.look{h:Heap}{x dx C:Addr}{mA:Str->Option Value}(I:ObjM h x dx C mA):∃ od,W.InstAt h x (W.instObj C dx) C (some od) /\ ∀ name,W.lookIn name od=some (mA name):=
 let⟨od,ho,hl⟩:=lookIn_ns I.ns
 ⟨od,⟨I.obj,rfl,rfl,ho⟩,hl⟩
section
variable{prog:Program}{w:World}{A:Around}{E:Value->Shared->Prop}{s:Shared}{K:W.Frag}{x dx C f:Addr}{mA:Str->Option Value}{name:Str}{v:Value}
theorem get_map{expr:Bool}{Q:Value->Shared->Prop}(X:K.In s.heap)(I:ObjM s.heap x dx C mA)(hg:W.plainGet K C name=true)(hh:W.hasDictIn K C=true)
 (ha:W.findIn K (.ref C) name=some none) (hv:mA name=some v) (hv':W.handedIn v=true) (h:Q v { s with toks:=s.toks+1 }) :
 wpAny (model prog w) A (getAttr (.ref x) name expr) Q E s:=by
 obtain⟨od,J,hl⟩:=I.look;exact W.get_value X J (W.plainGet_of hg).1 (W.findObj_own hh ha rfl (by rw[hl,hv])) hv' h
theorem get_meth{pl:Sem Bool}{Q:Value×List Value->Shared->Prop}(X:K.In s.heap)(I:ObjM s.heap x dx C mA)(hg:W.plainGet K C name=true)
 (hf:W.findIn K (.ref C) name=some (some (.ref f))) (ht:W.isFn K (.ref f)=true) (hv:mA name=none) (h:Q (.ref f,[.ref x]) s) :
 wpAny (model prog w) A (getMethod (.ref x) name pl) Q E s:=by
 obtain⟨od,J,hl⟩:=I.look;exact W.method_fn X J (W.plainGet_of hg).1 (W.plainGet_of hg).2 hf (beq_iff_eq.mp ht) (by show(W.lookIn name od).map (·.isSome)=some false;rw[hl,hv];rfl) h
theorem set_map{ns:List Str}{Q:Unit->Shared->Prop}(X:K.In s.heap)(I:ObjM s.heap x dx C mA)
 (hs:W.findIn K (.ref C) "__setattr__"=some (some (.builtin "object.__setattr__"))) (hp:W.plainOver K C=true) (ht:W.takerIn K C name=some none) (hh:W.hasDictIn K C=true)
 (hw:PySem.Within mA ns) (hsz:ns.length<=sizeLine)
 (h:∀ h',ObjM h' x dx C (fun y=>if y=name then some v else mA y)->Heap.SameBut dx s.heap h'->Q () { s with heap:=h',toks:=s.toks+2 }) :
 wpAny (model prog w) A (setAttr (.ref x) name v) Q E s:=by
 obtain⟨od,J,hl⟩:=I.look;refine W.set_plain X J hs (W.osa_open (s:={ s with toks:=s.toks+1 }) (r:=none) X J hp ht fun b=>?_);obtain⟨cd,hc,hd'⟩:=W.any_some hh;have hx:s.heap.get? x=some ⟨.ref C,some dx,.plain,#[]⟩:=I.obj;refine wpAny_bind (wpAny_pure (wpAny_bind (wpAny_bind (wpAny_loadPart hx (wpAny_bind (W.Looks.here (s:={ s with toks:=s.toks+1 }) (W.looks_clsIn X hc) ?_))))));rw[hd'];refine wpAny_pure (a:=some dx) (wpAny_bind (wpAny_pure (wpAny_bind ?_)));refine wpAny_nsSet1 (s:={ s with toks:=s.toks+1 }) I.ns fun h' hn2 hs2=>?_;obtain⟨oD,esD,epD,hoD,hdD,hcD⟩:=hn2.count (PySem.Within.cons name v hw);refine wpAny_bind (wpAny_lookBehind hoD (by rw[hdD];exact pastItsLine_dict (Nat.le_trans hcD (by rw[List.length_cons];omega))) ?_)
 exact wpAny_pure (h _ ⟨(hs2.2 _ (Ne.symm I.ne)).trans I.obj,hn2,I.ne⟩ hs2)
theorem make_map{R:Result->Shared->Prop}{vs:List Value}{kw:List (Str×Value)}(X:K.In s.heap)(hm:W.makesIn K C=true)
 (hi:W.findIn K (.ref C) "__init__"=some (some (.ref f))) (hf:W.typeIn K (.ref f)=some (.type "function"))
 (h:codeAny (model prog w) (A.under (.builtin "type.__call__" ⟨.ref C::vs,kw⟩)) (.call (.ref f) ⟨.ref (s.heap.objs.size+1)::vs,kw⟩) (W.InitBack (s.heap.objs.size+1) R)
  { s with heap:=(s.heap.push W.emptyDict).push (W.instObj C s.heap.objs.size) }) :
 codeAny (model prog w) A (.call (.ref C) ⟨vs,kw⟩) R s:=by
 obtain⟨hh,g,d,t,os⟩:=s;exact W.make_core (W.makes_of X hm) (W.looks_findIn X hi) (fun self=>W.bind_fn X self hf) (.inl rfl) h
end
noncomputable def putF(f:Str)(v:V):List (Str×V)->List (Str×V)
 | []=>[(f,v)]
 | (g,x)::r=>if g=f then(g,v)::r else(g,x)::putF f v r
theorem lookup_putF(f g:Str)(v:V):∀ fs:List (Str×V),(putF f v fs).lookup g=if g=f then some v else fs.lookup g
 | []=>by
   show List.lookup g [(f,v)]=_;by_cases h:g=f
   · have hb:(g == f)=true:=beq_iff_eq.mpr h
     simp only[List.lookup,hb,if_pos h]
   have hb:(g == f)=false:=beq_eq_false_iff_ne.mpr h;simp only[List.lookup,hb,if_neg h]
 | (k,x)::r=>by
   have ih:=lookup_putF f g v r;rw[show putF f v ((k,x)::r)=(if k=f then(k,v)::r else(k,x)::putF f v r)from rfl];by_cases hk:k=f
   · rw[if_pos hk]
     by_cases h:g=k
     · have hb:(g == k)=true:=beq_iff_eq.mpr h
       simp only[List.lookup,hb,if_pos (h.trans hk)]
     have hb:(g == k)=false:=beq_eq_false_iff_ne.mpr h;simp only[List.lookup,hb,if_neg (fun e:g=f=>h (e.trans hk.symm))]
   rw[if_neg hk];by_cases h:g=k
   · have hb:(g == k)=true:=beq_iff_eq.mpr h
     simp only[List.lookup,hb,if_neg (fun e:g=f=>hk (h.symm.trans e))]
   have hb:(g == k)=false:=beq_eq_false_iff_ne.mpr h;simp only[List.lookup,hb];exact ih
theorem keys_putF(f:Str)(v:V):∀ fs:List (Str×V),f∈(putF f v fs).map (·.1) /\ ∀ g,g∈fs.map (·.1)->g∈(putF f v fs).map (·.1)
 | []=>⟨by simp[putF],fun g h=>by simp at h⟩
 | (k,x)::r=>by
   obtain⟨i1,i2⟩:=keys_putF f v r;rw[show putF f v ((k,x)::r)=(if k=f then(k,v)::r else(k,x)::putF f v r)from rfl];by_cases hk:k=f
   · rw[if_pos hk]
     subst hk;exact⟨by simp,fun g h=>by simpa using h⟩
   rw[if_neg hk];refine⟨?_,fun g h=>?_⟩
   · rw[List.map_cons]
     exact List.mem_cons_of_mem _ i1
   rw[List.map_cons]at h ⊢;rcases List.mem_cons.mp h with e | e
   · exact List.mem_cons.mpr (.inl e)
   exact List.mem_cons_of_mem _ (i2 g e)
theorem length_putF(f:Str)(v:V):∀ fs:List (Str×V),(putF f v fs).length<=fs.length+1
 | []=>by simp[putF]
 | (k,x)::r=>by
   have ih:=length_putF f v r;rw[show putF f v ((k,x)::r)=(if k=f then(k,v)::r else(k,x)::putF f v r)from rfl];by_cases hk:k=f
   · rw[if_pos hk,List.length_cons,List.length_cons];omega
   rw[if_neg hk,List.length_cons,List.length_cons];omega
theorem RelO.some_of{v:V}{o:Option Value}(r:RelO (some v) o):∃ u,o=some u/\RelV v u:=by
 cases o with
 | none=>exact(show False from r).elim
 | some u=>exact⟨u,rfl,r⟩
theorem RelO.none_of{o:Option Value}(r:RelO none o):o=none:=by
 cases o with
 | none=>rfl
 | some u=>exact(show False from r).elim
theorem handed_of{v:V}{u:Value}(r:RelV v u):W.handedIn u=true:=by
 cases v with
 | non=>cases (show u=Value.none from r);rfl
 | bl b=>cases (show u=Value.bool b from r);rfl
 | int i=>obtain⟨t,e⟩:=(show ∃ t,u=Value.int i t from r);cases e;rfl
 | str x=>obtain⟨t,e⟩:=(show ∃ t,u=Value.str x t from r);cases e;rfl
 | byt b=>obtain⟨t,e⟩:=(show ∃ t,u=Value.bytes b t from r);cases e;rfl
 | flt b=>obtain⟨t,e⟩:=(show ∃ t,u=Value.float b t from r);cases e;rfl
 | ref a=>cases (show u=Value.ref a from r);rfl
 | ty n=>cases (show u=Value.type n from r);rfl
section
variable{P:Program}{w:World}{H H':Hp}{h h':Heap}{a C dx:Addr}{fs fs':List (Str×V)}
theorem ins_get(hok:HOk P w H h)(e:H a=some (.ins C dx fs)):∃ mA,ObjM h a dx C mA/\(∀ f,RelO (fs.lookup f) (mA f))/\PySem.Within mA (fs.map (·.1))/\fs.length<=1000/\H dx=some (.own a):=by
 obtain⟨d,z,ne,ob,mA,n,r,q⟩:=(show ObjOk P w H h a (.ins C dx fs)from hok a _ e);exact⟨mA,⟨ob,n,ne⟩,r,q,z,d⟩
end
structure Cls(K:W.Frag)(C:Addr):Prop where
 pg:W.plainGet K C Str.empty=true
 hd:W.hasDictIn K C=true
 po:W.plainOver K C=true
 sa:W.findIn K (.ref C) "__setattr__"=some (some (.builtin "object.__setattr__"))
theorem Cls.get{K:W.Frag}{C:Addr}(c:Cls K C)(f:Str):W.plainGet K C f=true:=c.pg
noncomputable def NoAttr(K:W.Frag)(C:Addr)(f:Str):Prop:=W.findIn K (.ref C) f=some none
theorem NoAttr.taker{K:W.Frag}{C:Addr}{f:Str}(n:NoAttr K C f):W.takerIn K C f=some none:=by
 unfold W.takerIn;rw[show W.findIn K (.ref C) f=some none from n]
 rfl
structure Meth(K:W.Frag)(C:Addr)(m:Str)(f:Addr):Prop where
 at_:W.findIn K (.ref C) m=some (some (.ref f))
 fn:W.isFn K (.ref f)=true
 kp:W.keepIn K (.ref f)=true
section
variable{X:Cx}{pins:List (Addr×Obj)}{σ:St}{H:Hp}{s:Shared}{a C dx:Addr}{fs:List (Str×V)}{f:Str}{v:V}{A:Around}{E:Value->Shared->Prop}
theorem getattr_ok{b:Bool}{Q:Value->Shared->Prop}(I:Inv X pins σ H s)(e:H a=some (.ins C dx fs))(c:Cls X.K C)(n:NoAttr X.K C f)(l:fs.lookup f=some v)
 (h:∀ u s',Inv X pins σ H s'->RelV v u->Q u s'):wpAny (model X.prog X.w) A (getAttr (.ref a) f b) Q E s:=by
 obtain⟨mA,O,r,_,_,_⟩:=ins_get I.hok e;obtain⟨u,hu,ru⟩:=RelO.some_of (v:=v) (o:=mA f) (by rw[← l];exact r f)
 exact get_map I.kIn O (c.get f) c.hd n hu (handed_of ru) (h u _ (I.tok _) ru)
theorem getmeth_ok{m:Str}{g:Addr}{pl:Sem Bool}{Q:Value×List Value->Shared->Prop}(I:Inv X pins σ H s)(e:H a=some (.ins C dx fs))(c:Cls X.K C)(k:Meth X.K C m g)(l:fs.lookup m=none)
 (h:Q (.ref g,[.ref a]) s):wpAny (model X.prog X.w) A (getMethod (.ref a) m pl) Q E s:=by
 obtain⟨mA,O,r,_,_,_⟩:=ins_get I.hok e;have hn:mA m=none:=RelO.none_of (by rw[← l];exact r m)
 exact get_meth I.kIn O (c.get m) k.at_ k.fn hn h
theorem setattr_ok{y:V}{u:Value}{Q:Unit->Shared->Prop}(I:Inv X pins σ H s)(e:H a=some (.ins C dx fs))(c:Cls X.K C)(n:NoAttr X.K C f)(hl:fs.length < 1000)(ry:RelV y u)
 (h:∀ s',Inv X pins σ (upd H a (.ins C dx (putF f y fs))) s'->Q () s'):wpAny (model X.prog X.w) A (setAttr (.ref a) f u) Q E s:=by
 obtain⟨mA,O,r,wi,_,ho⟩:=ins_get I.hok e;have hz:(fs.map (·.1)).length<=sizeLine:=by rw[List.length_map,sizeLine_eq];omega
 refine set_map I.kIn O c.sa c.po n.taker c.hd wi hz fun h' O' sb=>h _ ?_;have hd:∃ o,h'.get? dx=some o:=let⟨o,_,_,e',_⟩:=O'.ns;⟨o,e'⟩;refine I.write (x:=a) (e:=dx) (by rw[e];exact True.intro) (.inr ho) (fun b q hb z=>(sb.2 b hb).trans z) hd ?_
 refine⟨by rw[upd_ne O.ne];exact ho,?_,O.ne,O'.obj,_,O'.ns,fun g=>?_,fun g hg=>?_⟩
 · have:=length_putF f y fs;omega
 · show RelO ((putF f y fs).lookup g) (if g=f then some u else mA g)
   rw[lookup_putF];by_cases q:g=f
   · rw[if_pos q,if_pos q];exact ry
   rw[if_neg q,if_neg q];exact r g
 by_cases q:g=f
 · rw[q];exact(keys_putF f y fs).1
 refine(keys_putF f y fs).2 g (wi g fun z=>hg ?_);show(if g=f then some u else mA g)=none;rw[if_neg q];exact z
theorem Inv.made(I:Inv X pins σ H s):Inv X pins σ (upd (upd H s.heap.objs.size (.own (s.heap.objs.size+1))) (s.heap.objs.size+1) (.ins C s.heap.objs.size []))
 { s with heap:=(s.heap.push W.emptyDict).push (W.instObj C s.heap.objs.size) }:=by
 have e1:(s.heap.push W.emptyDict).get? s.heap.objs.size=some W.emptyDict:=Heap.get?_push_size s.heap rfl;have e2:((s.heap.push W.emptyDict).push (W.instObj C s.heap.objs.size)).get? (s.heap.objs.size+1)=some (W.instObj C s.heap.objs.size):=by
  have:=Heap.get?_push_size (s.heap.push W.emptyDict) (o:=W.instObj C s.heap.objs.size) rfl
  rwa [Heap.size_push]at this
 have e3:(s.heap.push W.emptyDict).Ns s.heap.objs.size (fun _=>none):=⟨W.emptyDict,#[],_,e1,rfl,(fun e he=>absurd he (by simp)),fun _=>rfl⟩
 have I1:=I.laid (a:=s.heap.objs.size) (o:=.own (s.heap.objs.size+1)) (h':=s.heap.push W.emptyDict) (t':=s.toks) (fun b u q=>Heap.get?_push_of_some _ q) (Nat.le_refl _) ⟨_,e1⟩;refine I1.laid (a:=s.heap.objs.size+1) (o:=.ins C s.heap.objs.size []) (t':=s.toks) (fun b u q=>Heap.get?_push_of_some _ q) (Nat.le_of_eq (Heap.size_push _ _)) ?_;have ne:s.heap.objs.size≠s.heap.objs.size+1:=Nat.ne_of_lt (Nat.lt_succ_self _);refine⟨by rw[upd_ne ne,upd_same],Nat.zero_le _,ne,e2,fun _=>none,(Heap.Ns1.of_empty e3).at fun o q=>Heap.get?_push_of_some _ q,fun _=>True.intro,fun y hy=>absurd rfl hy⟩
theorem attr_of{prog:Program}{w:World}{env:Env}{e:Expr}{f:Str}{pos:Pos}{s:Shared}{Q:Value->Shared->Prop}(hb:attributeBase e f env (eval e env)=eval e env)
 (h:wpAny (model prog w) A (eval e env) (fun o s₁=>wpAny (model prog w) A (getAttr o f true) Q E s₁) E s):wpAny (model prog w) A (eval (.Attribute e f pos) env) Q E s:=
 Attribute_any_ h (by rw[arm_eval_Attribute,hb])
end
noncomputable def tFld(K:W.Frag)(ta:TE)(f:Str):TE:=fun σ H Q=>ta σ H fun x H1=>∃ a C dx fs v,x=.ref a/\H1 a=some (.ins C dx fs)/\Cls K C/\NoAttr K C f/\fs.lookup f=some v/\Q v H1
noncomputable def sFld(K:W.Frag)(ta tv:TE)(f:Str):TS:=fun D σ H=>tv σ H fun y H1=>ta σ H1 fun x H2=>∃ a C dx fs,x=.ref a/\H2 a=some (.ins C dx fs)/\Cls K C/\NoAttr K C f/\fs.length < 1000 /\
 D.nx σ (upd H2 a (.ins C dx (putF f y fs)))
noncomputable def InOp(X:Cx)(op:Operator)(rd:V->V->Hp->VK->Prop):Prop:=
 ∀(pins:List (Addr×Obj)) (s:Shared) (σ:St) (H:Hp) (x y:V) (u v:Value) (Q:VK),Inv X pins σ H s->RelV x u->RelV y v->rd x y H Q->wpAny (model X.prog X.w) X.A (inplaceOp op u v) (EP X pins σ Q) X.xe s
noncomputable def sFldAug(K:W.Frag)(ta tv:TE)(rd:V->V->Hp->VK->Prop)(f:Str):TS:=fun D σ H=>ta σ H fun x H1=>∃ a C dx fs v,x=.ref a/\H1 a=some (.ins C dx fs)/\Cls K C/\NoAttr K C f/\fs.lookup f=some v /\
 tv σ H1 fun y H2=>rd v y H2 fun z H3=>∃ dx' fs',H3 a=some (.ins C dx' fs')/\fs'.length < 1000/\D.nx σ (upd H3 a (.ins C dx' (putF f z fs')))
section
variable{X:Cx}{o e value:Expr}{f:Str}{pos pos' tpos:Pos}{ta tv:TE}
theorem pe_fld(he:PE X e ta)(hb:attributeBase e f X.env (eval e X.env)=eval e X.env):PE X (.Attribute e f pos) (tFld X.K ta f):=by
 intro pins s σ H Q I h;refine attr_of hb (thn (he pins s σ H _ I h) fun u s1 zz=>?_);obtain⟨x,H1,I1,rx,a,C,dx,fs,v,ex,ea,c,n,l,q⟩:=zz;subst ex;obtain rfl:u=Value.ref a:=rx;exact getattr_ok I1 ea c n l fun u' s2 I2 ru=>⟨v,H1,I2,ru,q⟩
theorem ps_fld(ha:PE X o ta)(hv:PE X value tv)(hs:swapsWith value (some (.Attribute o f pos')) pos.line X.env=pure false):PS X (.Assign [.Attribute o f pos'] value pos) (sFld X.K ta tv f):=by
 intro pins s σ H D I h;refine plainObj_wpAny_Assign_Attribute (thn (hv pins s σ H _ I h) fun u s1 ⟨y,H1,I1,ry,q⟩=>thn (ha pins s1 σ H1 _ I1 q) fun ov s2 ⟨x,H2,I2,rx,a,C,dx,fs,ex,ea,c,n,l,q2⟩=>?_) hs;subst ex;obtain rfl:ov=Value.ref a:=rx;exact setattr_ok I2 ea c n l ry fun s3 I3=>⟨σ,_,I3,q2⟩
theorem ps_fldaug{op:Operator}{rd:V->V->Hp->VK->Prop}(ha:PE X o ta)(hv:PE X value tv)(hop:InOp X op rd):PS X (.AugAssign (.Attribute o f tpos) op value pos) (sFldAug X.K ta tv rd f):=by
 intro pins s σ H D I h;refine wpAny_AugAssign_AttributeAny (thn (ha pins s σ H _ I h) fun ov s1 zz=>?_);obtain⟨x,H1,I1,rx,a,C,dx,fs,v,ex,ea,c,n,l,q⟩:=zz;subst ex;obtain rfl:ov=Value.ref a:=rx;refine getattr_ok I1 ea c n l fun u s2 I2 ru=>thn (hv pins s2 σ H1 _ I2 q) fun w3 s3 ⟨y,H2,I3,ry,q3⟩=>thn (hop pins s3 σ H2 v y u w3 _ I3 ru ry q3) fun w4 s4 zz=>?_;obtain⟨z,H3,I4,rz,dx',fs',ea',l',q4⟩:=zz;exact setattr_ok I4 ea' c n l' rz fun s5 I5=>⟨σ,_,I5,q4⟩
noncomputable def rAdd:V->V->Hp->VK->Prop:=fun x y H Q=>∃ i j,x=.int i/\y=.int j/\Q (.int (i+j)) H
noncomputable def rSub:V->V->Hp->VK->Prop:=fun x y H Q=>∃ i j,x=.int i/\y=.int j/\Q (.int (i - j)) H
theorem in_add:InOp X .Add rAdd:=by
 rintro pins s σ H x y u v Q I rx ry ⟨i,j,rfl,rfl,q⟩;obtain⟨t,rfl⟩:=(show ∃ t,u=Value.int i t from rx);obtain⟨t',rfl⟩:=(show ∃ t',v=Value.int j t' from ry);exact PyProof.Rows.iadd_int ⟨.int (i+j),H,I.tok _,⟨_,rfl⟩,q⟩
theorem in_sub:InOp X .Sub rSub:=by
 rintro pins s σ H x y u v Q I rx ry ⟨i,j,rfl,rfl,q⟩;obtain⟨t,rfl⟩:=(show ∃ t,u=Value.int i t from rx);obtain⟨t',rfl⟩:=(show ∃ t',v=Value.int j t' from ry);exact PyProof.Rows.isub_int ⟨.int (i - j),H,I.tok _,⟨_,rfl⟩,q⟩
end
section
variable{X:Cx}{pins:List (Addr×Obj)}{σ:St}{H:Hp}{s:Shared}{A:Around}{E:Value->Shared->Prop}{Q:Value->Shared->Prop}{c:Value}{b:Bool}
inductive TyOf(K:W.Frag)(H:Hp):V->Value->Prop where
 | non:TyOf K H .non (.type "NoneType")
 | bl (x:Bool):TyOf K H (.bl x) (.type "bool")
 | int (i:Int):TyOf K H (.int i) (.type "int")
 | str (x:Str):TyOf K H (.str x) (.type "str")
 | flt (x:UInt64):TyOf K H (.flt x) (.type "float")
 | lst {a:Addr}{xs:List V} (e:H a=some (.lst xs)):TyOf K H (.ref a) (.type "list")
 | frz {a:Addr}{o:Obj}{xs:List V} (e:H a=some (.frz o (.lst xs))):TyOf K H (.ref a) (.type "list")
 | tup {a:Addr}{xs:List V} (e:H a=some (.tup xs)):TyOf K H (.ref a) (.type "tuple")
 | dK {a:Addr}{kvs:List (Key×V)} (e:H a=some (.dK kvs)):TyOf K H (.ref a) (.type "dict")
 | dT {a:Addr}{kvs:List (List Key×V)} (e:H a=some (.dT kvs)):TyOf K H (.ref a) (.type "dict")
 | ins {a C dx:Addr}{fs:List (Str×V)} (e:H a=some (.ins C dx fs)) (cl:Cls K C) (ha:W.findIn K (.ref C) "__class__"=some (some (.builtin "object.__class__")))
  (hn:W.specialIn K (.builtin "object.__class__") "__get__"=some (some (.builtin "getset_descriptor.__get__"))) (htk:W.takesIn K (.builtin "object.__class__")=some true)
  (hm:W.mroIn K C (.type "object")=some true):TyOf K H (.ref a) (.ref C)
theorem isinst_ok{x:V}{u t:Value}(I:Inv X pins σ H s)(rx:RelV x u)(ty:TyOf X.K H x t)(e:W.kitOne X.K t c=some b)(h:∀ tk,Q (.bool b) { s with toks:=tk }) :
 wpAny (model X.prog X.w) A (call (.builtin "isinstance") [u,c]) Q E s:=by
 cases ty with
 | non=>cases (show u=Value.none from rx);exact W.kia_one W.kitx_none I.kIn True.intro e (fun z=>nomatch z) h
 | bl y=>cases (show u=Value.bool y from rx);exact W.kia_one W.kitx_bool I.kIn True.intro e (fun z=>nomatch z) h
 | int i=>obtain⟨t,q⟩:=(show ∃ t,u=Value.int i t from rx);cases q;exact W.kia_one W.kitx_int I.kIn True.intro e (fun z=>nomatch z) h
 | str y=>obtain⟨t,q⟩:=(show ∃ t,u=Value.str y t from rx);cases q;exact W.kia_one W.kitx_str I.kIn True.intro e (fun z=>nomatch z) h
 | flt y=>obtain⟨t,q⟩:=(show ∃ t,u=Value.float y t from rx);cases q;exact W.kia_one W.kitx_float I.kIn True.intro e (fun z=>nomatch z) h
 | @lst a xs ea=>
   cases (show u=Value.ref a from rx);obtain⟨_,_,n,_,h1⟩:=(show ObjOk X.prog X.w H s.heap a (.lst xs)from I.hok a _ ea);exact W.kia_one W.kitx_list I.kIn ⟨_,h1,rfl⟩ e (fun z=>nomatch z) h
 | @frz a ob xs ea=>
   cases (show u=Value.ref a from rx);obtain⟨_,_,_,n,_,h1⟩:=(show ObjOk X.prog X.w H s.heap a (.frz ob (.lst xs))from I.hok a _ ea);exact W.kia_one W.kitx_list I.kIn ⟨_,h1,rfl⟩ e (fun z=>nomatch z) h
 | @tup a xs ea=>
   cases (show u=Value.ref a from rx);obtain⟨_,_,_,p⟩:=(show ObjOk X.prog X.w H s.heap a (.tup xs)from I.hok a _ ea);obtain⟨o,h1,h2,_⟩:=p;exact W.kia_one W.kitx_tuple I.kIn ⟨o,h1,h2⟩ e (fun z=>nomatch z) h
 | @dK a kvs ea=>
   cases (show u=Value.ref a from rx);obtain⟨_,_,vs,_,p⟩:=(show ObjOk X.prog X.w H s.heap a (.dK kvs)from I.hok a _ ea);obtain⟨o,es,ep,h1,h2,_⟩:=p;exact W.kia_one W.kitx_dict I.kIn ⟨o,h1,h2.1⟩ e (fun z=>nomatch z) h
 | @dT a kvs ea=>
   cases (show u=Value.ref a from rx);obtain⟨_,_,xs,_,o,es,ep,h1,h2,_⟩:=(show ObjOk X.prog X.w H s.heap a (.dT kvs)from I.hok a _ ea);exact W.kia_one W.kitx_dict I.kIn ⟨o,h1,h2.1⟩ e (fun z=>nomatch z) h
 | @ins a C dx fs ea cl ha hn htk hm=>
   cases (show u=Value.ref a from rx);obtain⟨mA,O,_⟩:=ins_get I.hok ea;obtain⟨od,J,_⟩:=O.look;exact W.kia_one (W.kitx_own (cl.get _) cl.hd ha hn htk hm) I.kIn J e (fun z=>nomatch z) h
end
end L2
namespace L2
open PySem PySem.Spec PyProof.Rows
structure Room(k:Nat)(A:Around):Prop where
 hd:A.handled=none
 dp:A.depth+3*k+5 < recursionLimit
 un:A.units+16*k+200 < cLine
theorem Room.mono{j k:Nat}{A:Around}(r:Room k A)(h:j<=k):Room j A:=⟨r.hd,by have:=r.dp;omega,by have:=r.un;omega⟩
theorem Room.up{j k:Nat}{A:Around}(r:Room k A)(h:j<=k:=by first | decide | omega):Room j A:=r.mono h
theorem Room.deeper{k:Nat}{A:Around}(r:Room (k+1) A)(env:Env):Room k (A.deeper env):=
 ⟨r.hd,by have:=r.dp;show A.depth+1+3*k+5 < _;omega,by have:=r.un;show A.units+3+16*k+200 < _;omega⟩
theorem make_depth{A:Around}{C:Addr}{us:List Value}{kw:List (Str×Value)}:(A.under (.builtin "type.__call__" ⟨.ref C::us,kw⟩)).depth=A.depth+1:=by
 first | rfl | simp[Around.under,Code.weight,Code.isCreation,Code.isGuard,Code.isCaller,Code.frames,Code.isFrame,guardIds]
theorem make_units{A:Around}{C:Addr}{us:List Value}{kw:List (Str×Value)}:(A.under (.builtin "type.__call__" ⟨.ref C::us,kw⟩)).units=A.units+1:=by
 first | rfl | simp[Around.under,Code.cUnits,Code.frames,Code.isFrame]
theorem Room.make{k:Nat}{A:Around}(r:Room (k+1) A)(C:Addr)(us:List Value)(kw:List (Str×Value)):Room k (A.under (.builtin "type.__call__" ⟨.ref C::us,kw⟩)):=
 ⟨r.hd,by have:=r.dp;rw[make_depth];omega,by have:=r.un;rw[make_units];omega⟩
theorem Room.depth{k:Nat}{A:Around}(r:Room k A):A.depth < recursionLimit:=by have:=r.dp;omega
theorem Room.units{k:Nat}{A:Around}(r:Room k A):A.units+64 < cLine:=by have:=r.un;omega
noncomputable def tNil:TA:=fun _ H Q=>Q [] H
noncomputable def tCons(ta:TE)(tr:TA):TA:=fun σ H Q=>ta σ H fun x H1=>tr σ H1 fun xs H2=>Q (x::xs) H2
section
variable{X:Cx}{e:Expr}{es:List Expr}{te:TE}{t:TA}{pos:Pos}
theorem pa_nil:PA X [] tNil:=fun _ _ _ _ H Q I h=>Calls.spliced_nil ⟨[],H,I,.nil,h⟩
theorem pa_cons(ha:PE X e te)(hr:PA X es t)(hs:starEach (e::es) X.env=(false,eval e X.env)::starEach es X.env:=by rfl):PA X (e::es) (tCons te t):=by
 intro pos pins s σ H Q I h;rw[hs];show wpAny _ _ (spliced ((false,eval e X.env)::backTo pos (starEach es X.env))) _ _ s;refine Calls.spliced_cons (thn (ha pins s σ H _ I h) fun u s1 zz=>?_);obtain⟨x,H1,I1,r1,q1⟩:=zz;exact thn (hr pos pins s1 σ H1 _ I1 q1) fun us s2 ⟨xs,H2,I2,r2,q2⟩=>⟨x::xs,H2,I2,.cons r1 r2,q2⟩
noncomputable def tTup(t:TA):TE:=fun σ H Q=>t σ H fun xs H1=>xs.length<=sizeLine /\ ∀ p,H1 p=none->Q (.ref p) (upd H1 p (.tup xs))
noncomputable def tLst(t:TA):TE:=fun σ H Q=>t σ H fun xs H1=>xs.length<=sizeLine /\ ∀ p,H1 p=none->Q (.ref p) (upd H1 p (.lst xs))
theorem pe_tup{x1}(h:PA X es t):PE X (.Tuple es x1 pos) (tTup t):=by
 intro pins s σ H Q I hq;refine wpAny_Tuple_spliced (thn (h pos pins s σ H _ I hq) fun us s1 ⟨xs,H1,I1,r,z,q⟩=>⟨by rw[← r.length];exact z,?_⟩)
 have hf:H1 s1.heap.objs.size=none:=I1.hok.fresh (Nat.le_refl _);refine⟨.ref s1.heap.objs.size,upd H1 s1.heap.objs.size (.tup xs),I1.laid (t':=s1.toks) (fun b u e=>Heap.get?_push_of_some _ e) (Nat.le_refl _) ?_,rfl,q _ hf⟩;exact⟨z,us,r,⟨_,Heap.get?_push_size _ rfl,rfl,_,rfl⟩⟩
theorem pe_lst(h:PA X es t):PE X (.List es pos) (tLst t):=by
 intro pins s σ H Q I hq;refine wpAny_List_spliced (thn (h pos pins s σ H _ I hq) fun us s1 ⟨xs,H1,I1,r,z,q⟩=>⟨by rw[← r.length];exact z,?_⟩)
 have hf:H1 s1.heap.objs.size=none:=I1.hok.fresh (Nat.le_refl _);refine⟨.ref s1.heap.objs.size,upd H1 s1.heap.objs.size (.lst xs),I1.laid (t':=s1.toks) (fun b u e=>Heap.get?_push_of_some _ e) (Nat.le_refl _) ?_,rfl,q _ hf⟩;exact⟨z,us,0,r,Heap.get?_push_size _ rfl⟩
end
noncomputable abbrev Sp:=List V->Hp->VK->XK->Prop
noncomputable abbrev CXT:=List Env->Hp->Shared->XK->Value->Shared->Prop
structure Env0(P:Program)(w:World)(K:W.Frag)(mg:Str->Option Value)(base:Heap)(A:Around)(outer:List Env)(s:Shared)(H:Hp):Prop where
 frames:A.frames=some outer
 mod:Mod K mg base
 bs:∀ b o,base.get? b=some o->s.heap.get? b=some o/\H b=none
 bsz:base.objs.size<=s.heap.objs.size
 funs:s.heap.FunFrames base outer
 frf:∀ b∈frs outer,H b=none
 hok:HOk P w H s.heap
 bare:AllBare s.gens
noncomputable def CE(outer:List Env)(P:Program)(w:World)(H:Hp)(s:Shared)(Q:VK)(u:Value)(s':Shared):Prop:=
 ∃ v H',s'.os=s.os/\AllBare s'.gens/\Un (frs outer) [] H H' s.heap s'.heap/\HOk P w H' s'.heap/\RelV v u/\Q v H'
noncomputable def CR(CX:CXT)(outer:List Env)(P:Program)(w:World)(H:Hp)(s:Shared)(Q:VK)(E:XK)(r:Result)(s':Shared):Prop:=
 match r with
 | .ok (.ret u)=>CE outer P w H s Q u s'
 | .ok _=>False
 | .error e=>CX outer H s E e s'
structure FnOk(P:Program)(w:World)(K:W.Frag)(mg:Str->Option Value)(base:Heap)(CX:CXT)(k:Nat)(f:Addr)(fd:FuncData)(ps:List Str)(sp:Sp):Prop where
 len:∀ vs H Q E,sp vs H Q E->vs.length=ps.length
 run:∀(A:Around) (outer:List Env) (s:Shared) (H:Hp) (args:Args) (us:List Value) (vs:List V) (Q:VK) (E:XK),Room k A->Env0 P w K mg base A outer s H->BindsTo s fd args (ps.zip us)->Vals vs us->sp vs H Q E ->
  codeAny (model P w) A (.call (.ref f) args) (CR CX outer P w H s Q E) s
theorem Env0.make{P:Program}{w:World}{K:W.Frag}{mg:Str->Option Value}{base:Heap}{A:Around}{outer:List Env}{s:Shared}{H:Hp}(e:Env0 P w K mg base A outer s H)(C:Addr)(us:List Value)(kw:List (Str×Value)) :
 Env0 P w K mg base (A.under (.builtin "type.__call__" ⟨.ref C::us,kw⟩)) outer s H:=⟨by first | exact e.frames | (simpa [Around.under,Code.envs,Code.isFrame,pushEnvs] using e.frames),e.mod,e.bs,e.bsz,e.funs,e.frf,e.hok,e.bare⟩
section
variable{X:Cx}{pins:List (Addr×Obj)}{σ:St}{H:Hp}{s s':Shared}
theorem Inv.env0(I:Inv X pins σ H s):Env0 X.prog X.w X.K X.mg X.base X.A X.stack s H:=
 ⟨I.ok.frames,I.ok.mod,I.bs,Nat.le_trans I.ok.bsz I.sz,I.stack,I.stkFree,I.hok,I.bare⟩
theorem Inv.after{Q:VK}{u:Value}(I:Inv X pins σ H s)(h:CE X.stack X.prog X.w H s Q u s'):EP X pins σ Q u s':=by
 obtain⟨v,H',os,bare,un,hok,r,q⟩:=h;obtain⟨hh,g,d,t,os'⟩:=s';obtain rfl:os'=s.os:=os;exact⟨v,H',I.call (h':=hh) (g':=g) (d':=d) (t':=t) (ch:=[]) un hok bare (fun b z=>absurd z (by simp)),r,q⟩
end
noncomputable def tCall(sp:Sp)(dvs:List V)(E:XK)(t:TA):TE:=fun σ H Q=>t σ H fun vs H1=>sp (vs++dvs) H1 Q E
noncomputable def tMeth(C:Addr)(m:Str)(sp:Sp)(dvs:List V)(E:XK)(ta:TE)(t:TA):TE:=fun σ H Q=>ta σ H fun x H1=>∃ a dx fs,x=.ref a/\H1 a=some (.ins C dx fs)/\fs.lookup m=none /\
 t σ H1 fun vs H2=>sp (x::(vs++dvs)) H2 Q E
noncomputable def tMake(C:Addr)(sp:Sp)(dvs:List V)(E:XK)(t:TA):TE:=fun σ H Q=>t σ H fun vs H1=>∀ x dx,H1 x=none->H1 dx=none->dx≠x ->
 sp (.ref x::(vs++dvs)) (upd (upd H1 dx (.own x)) x (.ins C dx [])) (fun v H2=>v=.non/\Q (.ref x) H2) E
noncomputable def Binds(K:W.Frag)(fd:FuncData)(ps:List Str)(ds:List Value):Prop:=
 ∀(s:Shared) (us:List Value),K.In s.heap->(us++ds).length=ps.length->BindsTo s fd ⟨us,[]⟩ (ps.zip (us++ds))
theorem Binds.all{K:W.Frag}{fd:FuncData}{ps:List Str}(h:∀ us:List Value,us.length=ps.length->bindArgs fd ⟨us,[]⟩=pure (ps.zip us)):Binds K fd ps []:=fun s us _ hl=>by
 rw[List.append_nil]at hl ⊢;exact .of_eq (h us hl)
noncomputable def Passes(CX:CXT)(X:Cx)(E:XK):Prop:=∀(pins:List (Addr×Obj)) (σ:St) (H:Hp) (s:Shared) (e:Value) (s':Shared),Inv X pins σ H s->CX X.stack H s E e s'->X.xe e s'
section
variable{X:Cx}{CX:CXT}{k:Nat}{f C:Addr}{fd:FuncData}{ps:List Str}{sp:Sp}{dvs:List V}{ds:List Value}{E:XK}{x m:Str}{p pos apos:Pos}{e o:Expr}{es:List Expr}{ta:TE}{t:TA}
theorem run_fn{pins:List (Addr×Obj)}{σ:St}{H:Hp}{s:Shared}{Q:VK}{us:List Value}{vs:List V}(F:FnOk X.prog X.w X.K X.mg X.base CX k f fd ps sp)(hr:Room k X.A)(hb:Binds X.K fd ps ds)(hd:Vals dvs ds)(hx:Passes CX X E)
 (I:Inv X pins σ H s) (r:Vals vs us) (h:sp (vs++dvs) H Q E):wpAny (model X.prog X.w) X.A (call (.ref f) us) (EP X pins σ Q) X.xe s:=by
 have r2:Vals (vs++dvs) (us++ds):=r.append hd;have hl:(us++ds).length=ps.length:=by rw[← r2.length];exact F.len _ _ _ _ h
 refine wpAny_call (codeAny_mono (F.run X.A X.stack s H ⟨us,[]⟩ (us++ds) (vs++dvs) Q E hr I.env0 (hb s us I.kIn hl) r2 h) fun r s' hq=>?_);cases r with
 | error e=>exact hx pins σ H s e s' I hq
 | ok fl=>
   cases fl with
   | ret u=>exact I.after hq
   | next=>exact False.elim hq
   | brk=>exact False.elim hq
   | cont=>exact False.elim hq
theorem pe_call(F:FnOk X.prog X.w X.K X.mg X.base CX k f fd ps sp)(hr:Room k X.A)(hg:Gl X x)(hm:X.mg x=some (.ref f))(hk:W.keepIn X.K (.ref f)=true)(hb:Binds X.K fd ps ds)(hd:Vals dvs ds)(hx:Passes CX X E)
 (ha:PA X (e::es) t) (hdb:(x == ("__debug__":Str))=false:=by decide) (he:starEach (e::es) X.env=(false,eval e X.env)::starEach es X.env:=by rfl) (hpl:(backTo pos (starEach es X.env)).any (·.1)=false:=by rfl) :
 PE X (.Call (.Name x p) (e::es) [] pos) (tCall sp dvs E t):=by
 intro pins s σ H Q I h;refine wpAny_Call_Name_kw (ld_glob I hg hm ?_ hdb);refine W.callWith_K (h₀:=X.base) I.ok.mod.kin hk (thn (ha pos pins s σ H _ I h) fun us s1 ⟨vs,H1,I1,r,q⟩=>⟨I1.kIn,?_⟩) he hpl;exact run_fn F hr hb hd hx I1 r q
theorem pe_meth{pl:Sem Bool}(he:PE X o ta)(c:Cls X.K C)(hm:Meth X.K C m f)(F:FnOk X.prog X.w X.K X.mg X.base CX k f fd ps sp)(hr:Room k X.A)(hb:Binds X.K fd ps ds)(hd:Vals dvs ds)(hx:Passes CX X E)(ha:PA X (e::es) t)
 (hst:starEach (e::es) X.env=(false,eval e X.env)::starEach es X.env:=by rfl) (hpl:(backTo pos (starEach es X.env)).any (·.1)=false:=by rfl)
 (ht:eval (.Call (.Attribute o m apos) (e::es) [] pos) X.env=(do
  let ov ← eval o X.env
  standAt apos.atName
  let(f,first) ← holding [ov] (getMethod ov m pl)
  callWith pos f first (backTo pos (starEach (e::es) X.env)) (backToKw pos (keywordEach [] X.env))):=by rfl) :
 PE X (.Call (.Attribute o m apos) (e::es) [] pos) (tMeth C m sp dvs E ta t):=by
 intro pins s σ H Q I h;refine W.methodCall_KW (pl:=pl) (thn (he pins s σ H _ I h) fun u s1 ⟨x,H1,I1,rx,a,dx,fs,ex,ea,l,q⟩=>?_) ht;subst ex;obtain rfl:u=Value.ref a:=rx;refine getmeth_ok I1 ea c hm l ?_;refine W.callWith_K (first:=[.ref a]) (h₀:=X.base) I.ok.mod.kin hm.kp (thn (ha pos pins s1 σ H1 _ I1 q) fun us s2 ⟨vs,H2,I2,r,q2⟩=>⟨I2.kIn,?_⟩) hst hpl;exact run_fn (us:=.ref a::us) (vs:=.ref a::vs) F hr hb hd hx I2 (.cons rfl r) q2
theorem pe_meth0{pl:Sem Bool}(he:PE X o ta)(c:Cls X.K C)(hm:Meth X.K C m f)(F:FnOk X.prog X.w X.K X.mg X.base CX k f fd ps sp)(hr:Room k X.A)(hb:Binds X.K fd ps ds)(hd:Vals dvs ds)(hx:Passes CX X E)
 (ht:eval (.Call (.Attribute o m apos) [] [] pos) X.env=(do
  let ov ← eval o X.env
  standAt apos.atName
  let(f,first) ← holding [ov] (getMethod ov m pl)
  callWith pos f first (backTo pos (starEach [] X.env)) (backToKw pos (keywordEach [] X.env))):=by rfl) :
 PE X (.Call (.Attribute o m apos) [] [] pos) (tMeth C m sp dvs E ta tNil):=by
 intro pins s σ H Q I h;refine W.methodCall_KW (pl:=pl) (thn (he pins s σ H _ I h) fun u s1 ⟨x,H1,I1,rx,a,dx,fs,ex,ea,l,q⟩=>?_) ht;subst ex;obtain rfl:u=Value.ref a:=rx;refine getmeth_ok I1 ea c hm l ?_;exact W.callWith_K0 (first:=[.ref a]) I1.kIn hm.kp (run_fn (us:=[.ref a]) (vs:=[.ref a]) F hr hb hd hx I1 (.cons rfl .nil) q)
structure Mk(K:W.Frag)(C f:Addr):Prop where
 makes:W.makesIn K C=true
 init:W.findIn K (.ref C) "__init__"=some (some (.ref f))
 fn:W.isFn K (.ref f)=true
 kp:W.keepIn K (.ref C)=true
theorem run_make{pins:List (Addr×Obj)}{σ:St}{H:Hp}{s:Shared}{Q:VK}{us:List Value}{vs:List V}(M:Mk X.K C f)(F:FnOk X.prog X.w X.K X.mg X.base CX k f fd ps sp)(hr:Room (k+1) X.A)(hb:Binds X.K fd ps ds)(hd:Vals dvs ds)
 (hx:Passes CX X E) (I:Inv X pins σ H s) (r:Vals vs us)
 (h:∀ x dx,H x=none->H dx=none->dx≠x->sp (.ref x::(vs++dvs)) (upd (upd H dx (.own x)) x (.ins C dx [])) (fun v H2=>v=.non/\Q (.ref x) H2) E) :
 wpAny (model X.prog X.w) X.A (call (.ref C) us) (EP X pins σ Q) X.xe s:=by
 have hq:=h (s.heap.objs.size+1) s.heap.objs.size (I.hok.fresh (Nat.le_succ _)) (I.hok.fresh (Nat.le_refl _)) (Nat.ne_of_lt (Nat.lt_succ_self _));have I2:=Inv.made (C:=C) I;have r2:Vals (V.ref (s.heap.objs.size+1)::(vs++dvs)) (Value.ref (s.heap.objs.size+1)::(us++ds)):=.cons rfl (r.append hd);have hl:(Value.ref (s.heap.objs.size+1)::us++ds).length=ps.length:=by
  have e:=r2.length;rw[F.len _ _ _ _ hq]at e;exact e.symm
 refine wpAny_call (make_map (f:=f) I.kIn M.makes M.init (beq_iff_eq.mp M.fn) (codeAny_mono (F.run _ X.stack _ _ ⟨Value.ref (s.heap.objs.size+1)::us,[]⟩ (Value.ref (s.heap.objs.size+1)::(us++ds)) _ _ E (hr.make C us [])
  (I2.env0.make C us []) (hb _ (Value.ref (s.heap.objs.size+1)::us) I2.kIn hl) r2 hq) fun r s' hq'=>?_))
 cases r with
 | error e=>exact hx pins σ _ _ e s' I2 hq'
 | ok fl=>
   cases fl with
   | ret u=>
     obtain⟨v,H',I3,rv,ev,q3⟩:=I2.after hq';subst ev;exact⟨rv,⟨V.ref (s.heap.objs.size+1),H',I3,rfl,q3⟩⟩
   | next=>exact False.elim hq'
   | brk=>exact False.elim hq'
   | cont=>exact False.elim hq'
theorem pe_make(M:Mk X.K C f)(F:FnOk X.prog X.w X.K X.mg X.base CX k f fd ps sp)(hr:Room (k+1) X.A)(hg:Gl X x)(hm:X.mg x=some (.ref C))(hb:Binds X.K fd ps ds)(hd:Vals dvs ds)(hx:Passes CX X E)
 (ha:PA X (e::es) t) (hdb:(x == ("__debug__":Str))=false:=by decide) (he:starEach (e::es) X.env=(false,eval e X.env)::starEach es X.env:=by rfl) (hpl:(backTo pos (starEach es X.env)).any (·.1)=false:=by rfl) :
 PE X (.Call (.Name x p) (e::es) [] pos) (tMake C sp dvs E t):=by
 intro pins s σ H Q I h;refine wpAny_Call_Name_kw (ld_glob I hg hm ?_ hdb);refine W.callWith_K (h₀:=X.base) I.ok.mod.kin M.kp (thn (ha pos pins s σ H _ I h) fun us s1 ⟨vs,H1,I1,r,q⟩=>⟨I1.kIn,?_⟩) he hpl;exact run_make M F hr hb hd hx I1 r q
end
section
variable{X:Cx}{CX:CXT}{k:Nat}{f C:Addr}{fd:FuncData}{ps ks:List Str}{sp:Sp}{E:XK}{x m:Str}{p pos apos kpos:Pos}{e o:Expr}{es:List Expr}{kws:List Keyword}{te ta:TE}{t tk:TA}{nm:Option Str}
variable{g:List Value->List Value->List Value}{gV:List V->List V->List V}
end
structure FnScope(N P:List Str)(sc:Scope):Prop where
 kind:sc.kind=.function
 co:sc.isCoroutine=false
 gen:sc.isGenerator=false
 nd:N.Nodup
 pre:N.take P.length=P
 par:∀ x∈P,sc.names.lookup x=some .local∨sc.names.lookup x=some .cell
 nofree:∀ y∈sc.names,y.2 ≠ .free
theorem bindL_out{kindOf:Str->Option NameKind}{x:Str}:∀{binds:List (Str×Value)}{m:Str->Option Value},(∀ v,(x,v)∉binds)->bindL kindOf binds m x=m x
 | [],_,_=>rfl
 | (n,v)::r,m,h=>by
   unfold bindL;rw[bindL_out fun w hw=>h w (List.mem_cons_of_mem _ hw)];split
   · have:x≠n:=by rintro rfl;exact h v List.mem_cons_self
     simp[this]
   rfl
theorem bindC_out{kindOf:Str->Option NameKind}{x:Str}:∀{binds:List (Str×Value)}{m:Str->Option Value},(∀ v,(x,v)∉binds)->bindC kindOf binds m x=m x
 | [],_,_=>rfl
 | (n,v)::r,m,h=>by
   unfold bindC;rw[bindC_out fun w hw=>h w (List.mem_cons_of_mem _ hw)];split
   · rfl
   have:x≠n:=by rintro rfl;exact h v List.mem_cons_self
   simp[this]
theorem bindL_get{kindOf:Str->Option NameKind}{x:Str}{v:Value}:∀{P:List Str}{vs:List Value}{i:Nat}{m:Str->Option Value},P.Nodup->P[i]?=some x->vs[i]?=some v->kindOf x=some .local ->
 bindL kindOf (P.zip vs) m x=some v
 | [],_,_,_,_,h,_,_=>by simp at h
 | _::_,[],_,_,_,_,h,_=>by simp at h
 | p::P,w::vs,0,m,nd,h1,h2,hk=>by
   simp at h1 h2;subst h1;subst h2;show bindL kindOf ((p,w)::P.zip vs) m p=_;unfold bindL;rw[bindL_out fun v hv=>(List.nodup_cons.mp nd).1 (List.of_mem_zip hv).1,if_pos hk];simp
 | p::P,w::vs,i+1,m,nd,h1,h2,hk=>by
   show bindL kindOf ((p,w)::P.zip vs) m x=_;unfold bindL;exact bindL_get (i:=i) (List.nodup_cons.mp nd).2 (by simpa using h1) (by simpa using h2) hk
theorem bindC_get{kindOf:Str->Option NameKind}{x:Str}{v:Value}:∀{P:List Str}{vs:List Value}{i:Nat}{m:Str->Option Value},P.Nodup->P[i]?=some x->vs[i]?=some v->kindOf x≠some .local ->
 bindC kindOf (P.zip vs) m x=some v
 | [],_,_,_,_,h,_,_=>by simp at h
 | _::_,[],_,_,_,_,h,_=>by simp at h
 | p::P,w::vs,0,m,nd,h1,h2,hk=>by
   simp at h1 h2;subst h1;subst h2;show bindC kindOf ((p,w)::P.zip vs) m p=_;unfold bindC;rw[bindC_out fun v hv=>(List.nodup_cons.mp nd).1 (List.of_mem_zip hv).1,if_neg hk];simp
 | p::P,w::vs,i+1,m,nd,h1,h2,hk=>by
   show bindC kindOf ((p,w)::P.zip vs) m x=_;unfold bindC;exact bindC_get (i:=i) (List.nodup_cons.mp nd).2 (by simpa using h1) (by simpa using h2) hk
noncomputable def start(N:List Str)(vs:List V):St:=vs.map some++List.replicate (N.length - vs.length) none
noncomputable def cxOf(CX:CXT)(P:Program)(w:World)(K:W.Frag)(mg:Str->Option Value)(base:Heap)(N:List Str)(qual:Str)(scope:Scope)(f:Addr)(cd:Value)(A:Around)(outer:List Env)(s:Shared)(H:Hp)(E:XK):Cx where
 prog:=P
 w:=w
 K:=K
 mg:=mg
 base:=base
 A:=A.deeper (envOfC qual scope s.heap.objs.size f cd)
 N:=N
 s₀:=s
 H₀:=H
 env:=envOfC qual scope s.heap.objs.size f cd
 outer:=outer
 stack:=envOfC qual scope s.heap.objs.size f cd::outer
 ex:=[]
 calm:=true
 fn:=fun _=>true
 pn:=[]
 xe:=fun e s'=>wpAny (model P w) (A.deeper (envOfC qual scope s.heap.objs.size f cd)) (leaving (envOfC qual scope s.heap.objs.size f cd) e) (fun _ s''=>CX outer H s E e s'') (fun e' s''=>CX outer H s E e' s'') s'
theorem cell_has{sc:Scope}{n:Nat}{x:Str}(h:sc.names.lookup x=some .cell):∃ c,(cellsFrom n sc.names []).lookup x=some c:=by
 have q:=W.cellsFrom_some sc.names n [] (.inl h);exact Option.isSome_iff_exists.mp q
theorem inv_start{CX:CXT}{P:Program}{w:World}{K:W.Frag}{mg:Str->Option Value}{base:Heap}{N ps:List Str}{qual:Str}{scope:Scope}{f:Addr}{cd:Value}{A:Around}{outer:List Env}{s s1:Shared}{H:Hp}{E:XK}{us:List Value}{vs:List V}
 (S:FnScope N ps scope) (hd:A.handled=none) (e0:Env0 P w K mg base A outer s H) (hl:vs.length=ps.length) (r:Vals vs us)
 (x:InCallC s s.heap.objs.size (bindL (envOfC qual scope s.heap.objs.size f cd).kindOf (ps.zip us) fun _=>none) (cellsFrom (s.heap.objs.size+1) scope.names []) (bindC (envOfC qual scope s.heap.objs.size f cd).kindOf (ps.zip us) fun _=>none) s1) :
 Inv (cxOf CX P w K mg base N qual scope f cd A outer s H E) [] (start N vs) H s1:=by
 have hpl:ps.length<=N.length:=by have:=congrArg List.length S.pre;rw[List.length_take]at this;omega
 obtain⟨h1,tk,rfl,hk⟩:=x.done;have noA:∀ b:Addr,b∉(cxOf CX P w K mg base N qual scope f cd A outer s H E).ex:=fun b z=>absurd (show b∈([]:List Addr)from z) (by simp)
 refine⟨⟨e0.mod,S.kind,rfl,rfl,Nat.le_refl _,fun y z c h1 h2=>?_,fun y hy=>?_,fun y c _ h=>?_,fun _=>hd,Around.frames_deeper e0.frames,.inr ⟨rfl,rfl⟩,fun b z=>absurd z (noA b),e0.bs,e0.bsz,fun b _ _=>noA b,fun b z=>absurd z (noA b),e0.funs,e0.frf⟩,
  rfl,e0.bare,Un.kept hk,⟨_,x.toInCall.ns,fun i y v h1 h2 h3=>?_⟩,fun y c h=>⟨_,x.cell y c h⟩,e0.hok.fresh (Nat.le_refl _),fun y c h=>?_,fun p hp=>absurd (show p∈([]:List (Addr×Obj))from hp) (by simp),e0.hok.kept hk,?_⟩
 · exact name_of_addr x.apart (PySem.mem_of_lookup h1) (PySem.mem_of_lookup h2)
 · have hy:scope.names.lookup y=some .cell∨scope.names.lookup y=some .free:=hy
   rcases hy with hy | hy
   · exact cell_has hy
   exact absurd rfl (S.nofree _ (PySem.mem_of_lookup hy))
 · exact Nat.le_of_lt (x.above y c (PySem.mem_of_lookup h))
 · have hi:i < vs.length:=by
    unfold start at h2;by_cases hi:i < vs.length
    · exact hi
    rw[List.getElem?_append_right (by simpa using hi)]at h2
    rw[List.getElem?_replicate]at h2;split at h2 <;> cases h2
   have ha:vs[i]?=some v:=by
    unfold start at h2;rw[List.getElem?_append_left (by simpa using hi),List.getElem?_map]at h2
    cases e:vs[i]? with
    | none=>rw[e]at h2;cases h2
    | some a=>rw[e]at h2;cases h2;rfl
   obtain⟨u,hu,rv⟩:=r.get ha;have hp:ps[i]?=some y:=by
    rw[← S.pre,List.getElem?_take_of_lt (by omega)];exact h1
   have ndP:ps.Nodup:=by rw[← S.pre];exact S.nd.sublist (List.take_sublist _ _)
   refine⟨u,rv,?_⟩;rcases S.par y (List.mem_of_getElem? hp)with k | k
   · exact .inl ⟨k,bindL_get ndP hp hu k⟩
   obtain⟨c,e⟩:=cell_has (n:=s.heap.objs.size+1) k;refine .inr ⟨.inl k,c,e,?_⟩;have q:=x.cell y c e;rw[bindC_get ndP hp hu (by show scope.names.lookup y≠_;rw[k];decide)]at q
   exact q
 · exact e0.hok.fresh (Nat.le_of_lt (x.above y c (PySem.mem_of_lookup h)))
 unfold start;show _=N.length;rw[List.length_append,List.length_map,List.length_replicate];omega
theorem fn_of{CX:CXT}{P:Program}{w:World}{K:W.Frag}{mg:Str->Option Value}{base:Heap}{k:Nat}{f:Addr}{name qual:Str}{params:Arguments}{body:List Stmt}{scope:Scope}{dV kV doc pm cdv ct oc:Value}{an od:Option Addr}
 {osl:Array (Option Value)}{N ps:List Str}{sp:Sp} (lk:K.lookup f=some ⟨oc,od,.func (W.fnOf name qual params body scope dV kV doc pm an cdv ct),osl⟩) (hcd:W.codeIn K cdv qual=true) (S:FnScope N ps scope)
 (len:∀ vs H Q E,sp vs H Q E->vs.length=ps.length)
 (hbody:∀(A:Around) (outer:List Env) (s:Shared) (H:Hp) (vs:List V) (Q:VK) (E:XK),Room k (A.deeper (envOfC qual scope s.heap.objs.size f cdv))->sp vs H Q E ->
  ∃ t,PSs (cxOf CX P w K mg base N qual scope f cdv A outer s H E) body t/\t { nx:=fun _ H'=>Q .non H',rt:=Q } (start N vs) H) :
 FnOk P w K mg base CX (k+1) f (W.fnOf name qual params body scope dV kV doc pm an cdv ct) ps sp:=by
 refine⟨len,fun A outer s H args us vs Q E hr e0 hb r hsp=>?_⟩;have hl:=len _ _ _ _ hsp;have KX:K.In s.heap:=e0.mod.kin.keeps fun b o e=>(e0.bs b o e).1;have lim:s.heap.NoLimit:=e0.mod.nolimit.keeps fun b o e=>(e0.bs b o e).1;have hkind:∀ y∈ps.zip us,scope.names.lookup y.1=some .local∨(scope.names.lookup y.1=some .cell/\((cellsFrom (s.heap.objs.size+1) scope.names []).lookup y.1).isSome=true):=fun⟨n,v⟩ hy=>by
  rcases S.par n (List.of_mem_zip hy).1 with q | q
  · exact .inl q
  exact .inr ⟨q,W.cellsFrom_some _ _ _ (.inl q)⟩
 refine codeAny_call_function hr.depth (KX _ _ lk) rfl S.co S.gen rfl (W.codeRec_of KX hcd) (hb _ _ _ _ ?_);refine wpAny_newFunctionEnv_cells S.kind hkind fun env he s1 x=>?_;subst he;refine⟨lim.keeps x.toInCall.keep,codeAny_func ?_⟩;obtain⟨t,ht,hq⟩:=hbody A outer s H vs Q E (hr.deeper _) hsp;have I:Inv (cxOf CX P w K mg base N qual scope f cdv A outer s H E) [] (start N vs) H s1:=inv_start S hr.hd e0 hl r x;refine wpAny_mono (ht [] s1 (start N vs) H _ I hq) (fun fl s' hs=>?_) fun e s' hs=>hs;have fin:∀{σ':St}{H':Hp}{v:V}{u:Value},Inv (cxOf CX P w K mg base N qual scope f cdv A outer s H E) [] σ' H' s'->RelV v u->Q v H'->CE outer P w H s Q u s':=
  fun {σ' H' v u} J rv q=>⟨v,H',J.os,J.bare,J.base,J.hok,rv,q⟩
 cases fl with
 | ret u=>
   obtain⟨v,σ',H',J,rv,q⟩:=hs;exact fin J rv q
 | next=>
   obtain⟨σ',H',J,q⟩:=hs;exact fin (v:=V.non) (u:=Value.none) J rfl q
 | brk=>
   obtain⟨_,_,_,q⟩:=hs;exact False.elim q
 | cont=>
   obtain⟨_,_,_,q⟩:=hs;exact False.elim q
end L2
namespace L2
open PySem PySem.Spec PyProof.Rows
section
variable{X:Cx}{x:Str}{p pos:Pos}{e:Expr}{es:List Expr}{t:TA}{id T:String}{r:List V->Hp->VK->Prop}
noncomputable def tCB(r:List V->Hp->VK->Prop)(t:TA):TE:=fun σ H Q=>t σ H fun vs H1=>r vs H1 Q
theorem pe_callB(hc:CallR X (.builtin id) r)(hg:Gl X x)(hm:X.mg x=none)(hv:bootBuiltins x=some (.builtin id))(ha:PA X (e::es) t)(hn:x ≠ "__name__":=by decide)(hdb:(x == ("__debug__":Str))=false:=by decide)
 (he:starEach (e::es) X.env=(false,eval e X.env)::starEach es X.env:=by rfl) (hpl:(backTo pos (starEach es X.env)).any (·.1)=false:=by rfl):PE X (.Call (.Name x p) (e::es) [] pos) (tCB r t):=by
 intro pins s σ H Q I h;refine wpAny_Call_Name_kw (ld_blt I hg hm hv ?_ hn hdb);exact PyProof.Rows.callWith_builtin1 (thn (ha pos pins s σ H _ I h) fun us s1 ⟨vs,H1,I1,r1,q1⟩=>hc pins s1 σ H1 vs us Q I1 r1 q1) he hpl
theorem pe_callTy(hc:CallR X (.type T) r)(hg:Gl X x)(hm:X.mg x=none)(hv:bootBuiltins x=some (.type T))(ha:PA X (e::es) t)(hn:x ≠ "__name__":=by decide)(hdb:(x == ("__debug__":Str))=false:=by decide)
 (he:starEach (e::es) X.env=(false,eval e X.env)::starEach es X.env:=by rfl) (hpl:(backTo pos (starEach es X.env)).any (·.1)=false:=by rfl):PE X (.Call (.Name x p) (e::es) [] pos) (tCB r t):=by
 intro pins s σ H Q I h;refine wpAny_Call_Name_kw (ld_blt I hg hm hv ?_ hn hdb);exact PyProof.Rows.callWith_type1 (thn (ha pos pins s σ H _ I h) fun us s1 ⟨vs,H1,I1,r1,q1⟩=>hc pins s1 σ H1 vs us Q I1 r1 q1) he hpl
end
end L2
namespace HT
open PySem PyProof.Rows
section
open PySem.SeqAt
open PySem.AutoSeq1 (wpAny_loadPart')
open PySem.MeetsSeq PySem.MeetsSeq2 PySem.MeetsSeq3
end
section
variable{prog:Program}{w:World}{A:Around}{E:Value->Shared->Prop}{s:Shared}
noncomputable def sIx(n d:Nat):Option Int->Nat
 | none=>d
 | some v=>if v < 0 then(v+(n:Int)).toNat else min v.toNat n
end
end HT
namespace L2
open PySem PySem.Spec PyProof.Rows
noncomputable abbrev TO:=St->Hp->(Option Int->Hp->Prop)->Prop
noncomputable def PO(X:Cx)(e:Option Expr)(t:TO):Prop:=
 ∀(pins:List (Addr×Obj)) (s:Shared) (σ:St) (H:Hp) (Q:Option Int->Hp->Prop),Inv X pins σ H s->t σ H Q ->
   wpAny (model X.prog X.w) X.A (evalPart e X.env) (fun u s'=>∃ o H',Inv X pins σ H' s'/\IsPart u o/\Q o H') X.xe s
noncomputable def tNoPart:TO:=fun _ H Q=>Q none H
noncomputable def tPart(t:TE):TO:=fun σ H Q=>t σ H fun x H1=>∃ i,x=.int i/\Q (some i) H1
section
variable{X:Cx}{e:Expr}{te:TE}{lo hi:Option Expr}{tl th:TO}{pos p2:Pos}
theorem po_none:PO X none tNoPart:=by
 intro pins s σ H Q I h;rw[evalPart_none];exact wpAny_pure ⟨none,H,I,.none,h⟩
theorem po_some(h:PE X e te):PO X (some e) (tPart te):=by
 intro pins s σ H Q I hw;rw[evalPart_some];refine thn (h pins s σ H _ I hw) fun u s1 zz=>?_;obtain⟨x,H1,I1,r1,q1⟩:=zz;obtain⟨i,rfl,q⟩:=q1;obtain⟨t,rfl⟩:=r1;exact⟨some i,H1,I1,.int i t,q⟩
noncomputable def SlR(X:Cx)(r:V->Option Int->Option Int->Hp->VK->Prop):Prop:=
 ∀(pins:List (Addr×Obj)) (s:Shared) (σ:St) (H:Hp) (x:V) (v vl vu:Value) (lo hi:Option Int) (sl:Addr) (Q:VK),Inv X pins σ H s->RelV x v->s.heap.IsSliceOf sl vl vu .none->IsPart vl lo->IsPart vu hi->r x lo hi H Q ->
   ∃ T id,typeLookup (.type T) "__getitem__"=pure (some (.builtin id))/\s.TypeIs v T/\wpAny (model X.prog X.w) X.A (getItem v (.ref sl)) (EP X pins σ Q) X.xe s
noncomputable def tSl(r:V->Option Int->Option Int->Hp->VK->Prop)(te:TE)(tl th:TO):TE:=fun σ H Q=>te σ H fun x H1=>tl σ H1 fun l H2=>th σ H2 fun u H3=>r x l u H3 Q
theorem pe_slice{r:V->Option Int->Option Int->Hp->VK->Prop}(hr:SlR X r)(he:PE X e te)(hl:PO X lo tl)(hu:PO X hi th):PE X (.Subscript e (.Slice lo hi none p2) pos) (tSl r te tl th):=by
 intro pins s σ H Q I h;refine Subscript_ (thn (he pins s σ H _ I h) fun v s1 zz=>?_);obtain⟨x,H1,I1,r1,q1⟩:=zz;refine wpAny_Slice (thn (hl pins s1 σ H1 _ I1 q1) fun vl s2 ⟨l,H2,I2,pl,q2⟩=>thn (hu pins s2 σ H2 _ I2 q2) fun vu s3 zz=>?_);obtain⟨u,H3,I3,pu,q3⟩:=zz;rw[evalPart_none];refine wpAny_pure ?_;have I4:Inv X pins σ H3 { s3 with heap:=s3.heap.push { cls:=.type "slice",data:=.fields #[vl,vu,.none] } }:=I3.kept (t':=s3.toks) fun b ob q=>Heap.get?_push_of_some _ q;obtain⟨T,id,hT,ht,hg⟩:=hr pins { s3 with heap:=s3.heap.push { cls:=.type "slice",data:=.fields #[vl,vu,.none] } } σ H3 x v vl vu l u s3.heap.objs.size Q I4 r1 (Heap.IsSliceOf.new ..) pl pu q3;show wpAny (model X.prog X.w) X.A (subscriptTail e (.Slice lo hi none p2) v (.ref s3.heap.objs.size)) (EP X pins σ Q) X.xe { s3 with heap:=s3.heap.push { cls:=.type "slice",data:=.fields #[vl,vu,.none] } };exact tail_any (ops:=[.ref s3.heap.objs.size,v]) ht hT hg (by with_unfolding_all rfl)
noncomputable def cutV(xs:List V)(lo hi:Option Int):List V:=(xs.drop (HT.sIx xs.length 0 lo)).take (HT.sIx xs.length xs.length hi - HT.sIx xs.length 0 lo)
theorem cutV_length(xs:List V)(lo hi:Option Int):(cutV xs lo hi).length<=xs.length:=by
 unfold cutV;rw[List.length_take,List.length_drop];omega
end
end L2
namespace L2
open PySem PySem.Spec PyProof.Rows
noncomputable def ixN(n:Nat)(i:Int):Option Nat:=if 0<=i then(if i < n then some i.toNat else none)else if -(n:Int)<=i then some (i+n).toNat else none
noncomputable def atI{α:Type}(xs:List α)(i:Int):Option α:=(ixN xs.length i).bind fun j=>xs[j]?
theorem ixN_seq{n:Nat}{i:Int}{j:Nat}(h:ixN n i=some j):seqIndex? i n=some j/\j < n /\ -(n:Int)<=i/\i < n:=by
 unfold ixN at h;by_cases h0:0<=i
 · rw[if_pos h0]at h
   by_cases h1:i < n
   · rw[if_pos h1]at h
     have e:i.toNat=j:=Option.some.inj h;exact⟨by rw[seqIndex_of h0 h1,e],by omega,by omega,h1⟩
   rw[if_neg h1]at h;cases h
 rw[if_neg h0]at h;by_cases h1:-(n:Int)<=i
 · rw[if_pos h1]at h
   have e:(i+n).toNat=j:=Option.some.inj h;exact⟨by rw[seqIndex_neg (by omega) h1,e],by omega,h1,by omega⟩
 rw[if_neg h1]at h;cases h
theorem atI_get{α:Type}{xs:List α}{i:Int}{v:α}(h:atI xs i=some v):∃ j,seqIndex? i xs.length=some j/\xs[j]?=some v/\j < xs.length /\ -(xs.length:Int)<=i/\i < xs.length:=by
 unfold atI at h;cases e:ixN xs.length i with
 | none=>rw[e]at h;cases h
 | some j=>
   rw[e]at h;obtain⟨h1,h2,h3,h4⟩:=ixN_seq e;exact⟨j,h1,h,h2,h3,h4⟩
theorem atI_nat{α:Type}{xs:List α}{j:Nat}{v:α}(h:xs[j]?=some v):atI xs (j:Int)=some v:=by
 have hj:j < xs.length:=(List.getElem?_eq_some_iff.mp h).1;have e:ixN xs.length (j:Int)=some j:=by
  unfold ixN;rw[if_pos (by omega),if_pos (by omega)];simp
 unfold atI;rw[e];exact h
noncomputable def PlainIx(b:Expr):Prop:=∀ o i,subscripted b false o i=operate [o,i] (getItem o i)
noncomputable def IxR(X:Cx)(r:R2):Prop:=
 ∀(value slice:Expr) (pins:List (Addr×Obj)) (s:Shared) (σ:St) (H:Hp) (x y:V) (v u:Value) (Q:VK),Inv X pins σ H s->RelV x v->RelV y u->r x y H Q ->
   subscripted slice false v u=operate [v,u] (getItem v u)->wpAny (model X.prog X.w) X.A (subscriptTail value slice v u) (EP X pins σ Q) X.xe s
noncomputable def MtR(X:Cx)(id:String)(r:V->List V->Hp->VK->Prop):Prop:=
 ∀(pins:List (Addr×Obj)) (s:Shared) (σ:St) (H:Hp) (x:V) (xs:List V) (v:Value) (us:List Value) (Q:VK),Inv X pins σ H s->RelV x v->Vals xs us->r x xs H Q ->
   wpAny (model X.prog X.w) X.A (call (.builtin id) (v::us)) (EP X pins σ Q) X.xe s
section
variable{X:Cx}{a b:Expr}{ta tb:TE}{pos:Pos}
theorem pe_ix{r:R2}(hr:IxR X r)(ha:PE X a ta)(hb:PE X b tb)(hs:PlainIx b):PE X (.Subscript a b pos) (tOp r ta tb):=by
 intro pins s σ H Q I h;exact Subscript_ (binT ha hb I h fun v u s2 x y H2 I2 rx ry q=>hr a b pins s2 σ H2 x y v u Q I2 rx ry q (hs _ _))
noncomputable def rIxL(K:W.Frag):R2:=fun x y H Q=>∃ p xs i v,x=.ref p/\y=.int i/\SqL K H p xs/\atI xs i=some v/\Q v H
noncomputable def rIxT(K:W.Frag):R2:=fun x y H Q=>∃ p xs i v,x=.ref p/\y=.int i/\SqT K H p xs/\atI xs i=some v/\Q v H
theorem ix_list:IxR X (rIxL X.K):=by
 intro value slice pins s σ H x y v u Q I rx ry h hs;obtain⟨p,xs,i,z,rfl,rfl,hq,he,q⟩:=h;cases rx;obtain⟨t,rfl⟩:=ry;obtain⟨its,r,pl,hz⟩:=I.list hq;obtain⟨j,h1,h2,h3,h4,h5⟩:=atI_get he;obtain⟨w,ew,rw'⟩:=r.get h2;have hl:=r.length;have hn:=line63;have fin:EP X pins σ Q w s:=⟨z,H,I,rw',q⟩;by_cases h0:0<=i
 · have hj:i.toNat=j:=by
    rw[seqIndex_of h0 h5]at h1;exact Option.some.inj h1
   exact item_listR pl.isList h0 (by omega) (by rw[hj];simpa using ew) fin hs
 have hj:(i+(its.toArray.size:Int)).toNat=j:=by
  rw[seqIndex_neg (by omega) h4]at h1
  rw[List.size_toArray,← hl];exact Option.some.inj h1
 exact subscriptTail_builtinR (x:=w) pl.isList.typeIs slot_list_getitem.lookup
  (wpAny_getItem_list_neg (Q:=fun r s'=>r=w/\EP X pins σ Q r s') pl.isList (by omega) (by rw[List.size_toArray] <;> omega) (by omega) (by rw[hj];simpa using ew) ⟨rfl,fin⟩) hs
theorem ix_tup:IxR X (rIxT X.K):=by
 intro value slice pins s σ H x y v u Q I rx ry h hs;obtain⟨p,xs,i,z,rfl,rfl,hq,he,q⟩:=h;cases rx;obtain⟨t,rfl⟩:=ry;obtain⟨its,r,pl,hz⟩:=I.tuple hq;obtain⟨j,h1,h2,h3,h4,h5⟩:=atI_get he;obtain⟨w,ew,rw'⟩:=r.get h2;have hl:=r.length;have hn:=line63;have fin:EP X pins σ Q w s:=⟨z,H,I,rw',q⟩;exact subscriptTail_builtinR (x:=w) pl.typeIs slot_tuple_getitem.lookup
  (getItem_tuple (j:=j) (Q:=fun r s'=>r=w/\EP X pins σ Q r s') pl (by omega) (by omega) (by rw[List.size_toArray,← hl];exact h1) (by simpa using ew) ⟨rfl,fin⟩) hs
theorem mapSeq_set(its:List Value)(n j:Nat)(u:Value):Obj.mapSeq (·.setIfInBounds j u) { cls:=.type "list",data:=.seq its.toArray n }={ cls:=.type "list",data:=.seq (its.set j u).toArray n }:=by
 simp[Obj.mapSeq]
theorem Inv.lst{pins:List (Addr×Obj)}{σ:St}{H:Hp}{s:Shared}{p:Addr}{xs:List V}(I:Inv X pins σ H s)(h:H p=some (.lst xs)) :
 ∃(its:List Value) (n:Nat),Vals xs its/\s.heap.get? p=some { cls:=.type "list",data:=.seq its.toArray n } /\ xs.length<=sizeLine:=by
 obtain⟨z,its,n,r,e⟩:=I.hok p _ h;exact⟨its,n,r,e,z⟩
theorem Inv.lstUpd{pins:List (Addr×Obj)}{σ:St}{H:Hp}{s:Shared}{p:Addr}{xs ys:List V}{its its':List Value}{n n':Nat}{f:Obj->Obj}(I:Inv X pins σ H s)(h:H p=some (.lst xs))
 (ho:s.heap.get? p=some { cls:=.type "list",data:=.seq its.toArray n }) (hf:f { cls:=.type "list",data:=.seq its.toArray n }={ cls:=.type "list",data:=.seq its'.toArray n' }) (r:Vals ys its') (hz:ys.length<=sizeLine) (t:Nat) :
 Inv X pins σ (upd H p (.lst ys)) { s with heap:=s.heap.update p f,toks:=t }:=by
 have e:(s.heap.update p f).get? p=some { cls:=.type "list",data:=.seq its'.toArray n' }:=by
  rw[Heap.get?_update_self f ho (by rw[hf] <;> rfl),hf]
 refine I.write (x:=p) (e:=p) (by rw[h];trivial) (.inl rfl) (fun b u hb q=>(Heap.get?_update_other _ _ (Ne.symm hb)).trans q) ⟨_,e⟩ ?_
 exact⟨hz,its',n',r,e⟩
noncomputable def rSetL:V->V->V->Hp->(Hp->Prop)->Prop:=fun o i v H Q=>∃ p xs k j,o=.ref p/\i=.int k/\H p=some (.lst xs)/\ixN xs.length k=some j/\Q (upd H p (.lst (xs.set j v)))
theorem set_list:PSet X rSetL:=by
 intro pins s σ H o i v ov iv u Q I ro ri rv h;obtain⟨p,xs,k,j,rfl,rfl,hp,hj,q⟩:=h;cases ro;obtain⟨t,rfl⟩:=ri;obtain⟨its,n,r,ho,hz⟩:=I.lst hp;obtain⟨h1,h2,h3,h4⟩:=ixN_seq hj;have hl:=r.length;have hn:=line63;have I':Inv X pins σ (upd H p (.lst (xs.set j v))) { s with heap:=s.heap.update p (Obj.mapSeq (·.setIfInBounds j u)) }:=
  I.lstUpd hp ho (mapSeq_set its n j u) (r.set rv j) (by rw[List.length_set];exact hz) s.toks
 by_cases h0:0<=k
 · have hk:k.toNat=j:=by
    rw[seqIndex_of h0 h4]at h1;exact Option.some.inj h1
   exact W.ki_setAt ho h0 (by omega) (by rw[List.size_toArray,← hl];exact h4) (by rw[hk];exact⟨_,I',q⟩)
 have hk:(k+(its.toArray.size:Int)).toNat=j:=by
  rw[seqIndex_neg (by omega) h3]at h1
  rw[List.size_toArray,← hl];exact Option.some.inj h1
 exact W.ki_setBack ho (by omega) (by rw[List.size_toArray,← hl];exact h3) (by omega) (by rw[hk];exact⟨_,I',q⟩)
theorem slice_bounds(lo hi:Option Int)(n:Nat):(sliceBounds lo hi none n).1=((HT.sIx n 0 lo:Nat):Int)/\(sliceBounds lo hi none n).2.1=((HT.sIx n n hi:Nat):Int)/\(sliceBounds lo hi none n).2.2=1:=by
 refine⟨?_,?_,rfl⟩
 · cases lo with
   | none=>simp[sliceBounds,HT.sIx]
   | some i=>
     simp only[sliceBounds,HT.sIx,Option.getD_none,show(1:Int) > 0 by decide,if_true]
     by_cases h:i < 0
     · simp only[h,if_true] <;> omega
     simp only[h,if_false] <;> omega
 cases hi with
 | none=>simp[sliceBounds,HT.sIx]
 | some i=>
   simp only[sliceBounds,HT.sIx,Option.getD_none,show(1:Int) > 0 by decide,if_true]
   by_cases h:i < 0
   · simp only[h,if_true] <;> omega
   simp only[h,if_false] <;> omega
theorem slicePick_cut(its:List Value)(lo hi:Option Int):slicePick its.toArray lo hi none=((its.drop (HT.sIx its.length 0 lo)).take (HT.sIx its.length its.length hi - HT.sIx its.length 0 lo)).toArray:=by
 obtain⟨h1,h2,h3⟩:=slice_bounds lo hi its.toArray.size;unfold slicePick;rw[h1,h2,h3];simp only[sliceRange_one,pick_run,List.size_toArray] <;> rfl
noncomputable def rSlL(K:W.Frag):V->Option Int->Option Int->Hp->VK->Prop:=fun x lo hi H Q=>∃ a xs,x=.ref a/\SqL K H a xs /\ ∀ p,H p=none->Q (.ref p) (upd H p (.lst (cutV xs lo hi)))
theorem sl_list:SlR X (rSlL X.K):=by
 intro pins s σ H x v vl vu lo hi sl Q I rx hs pl pu h;obtain⟨a,xs,rfl,hx,q⟩:=h;cases rx;obtain⟨its,r,ht,hz⟩:=I.list hx;have hlen:=r.length;refine⟨"list",_,slot_list_getitem.lookup,ht.isList.typeIs,?_⟩;refine wpAny_getItem_list_slice ht.isList hs pl pu .none (by simp) ?_ (by rw[List.size_toArray] <;> omega)
 rw[slicePick_cut,← hlen];refine⟨.ref s.heap.objs.size,_,I.laid (t':=s.toks) (o:=.lst (cutV xs lo hi)) (fun b ob q=>Heap.get?_push_of_some _ q) (Nat.le_refl _) ?_,rfl,q _ (I.hok.fresh (Nat.le_refl _))⟩;exact⟨Nat.le_trans (cutV_length xs lo hi) hz,_,0,(r.drop (HT.sIx xs.length 0 lo)).take (HT.sIx xs.length xs.length hi - HT.sIx xs.length 0 lo),Heap.get?_push_size _ rfl⟩
noncomputable def flatV:V->Bool
 | .non=>true
 | .bl _=>true
 | .int _=>true
 | .str _=>true
 | _=>false
noncomputable def eqV:V->V->Bool
 | .non,.non=>true
 | .bl a,.bl b=>a == b
 | .bl a,.int b=>(if a then 1 else 0) == b
 | .int a,.bl b=>a == (if b then 1 else 0)
 | .int a,.int b=>a == b
 | .str a,.str b=>a == b
 | _,_=>false
theorem eqAt_V{A:Around}{s:Shared}{y x:V}{u v:Value}(ry:RelV y u)(rx:RelV x v)(fy:flatV y=true)(fx:flatV x=true):SeqAt.EqAt A s u v (eqV y x):=by
 cases y with
 | non=>
   cases ry;cases x with
   | non=>cases rx;exact SeqAt.EqAt.same _
   | bl b=>cases rx;exact SeqAt.EqAt.none_bool b
   | int b=>obtain⟨t,rfl⟩:=rx;exact SeqAt.EqAt.none_int b t
   | str b=>obtain⟨t,rfl⟩:=rx;exact SeqAt.EqAt.none_str b t
   | _=>exact absurd (show false=true from fx) Bool.false_ne_true
 | bl a=>
   cases ry;cases x with
   | non=>cases rx;exact SeqAt.EqAt.bool_none a
   | bl b=>cases rx;exact SeqAt.EqAt.bool_bool a b
   | int b=>obtain⟨t,rfl⟩:=rx;exact SeqAt.EqAt.bool_int a b t
   | str b=>obtain⟨t,rfl⟩:=rx;exact SeqAt.EqAt.bool_str a b t
   | _=>exact absurd (show false=true from fx) Bool.false_ne_true
 | int a=>
   obtain⟨t',rfl⟩:=ry;cases x with
   | non=>cases rx;exact SeqAt.EqAt.int_none a t'
   | bl b=>cases rx;exact SeqAt.EqAt.int_bool a t' b
   | int b=>obtain⟨t,rfl⟩:=rx;exact SeqAt.EqAt.int_int a t' b t
   | str b=>obtain⟨t,rfl⟩:=rx;exact SeqAt.EqAt.int_str a t' b t
   | _=>exact absurd (show false=true from fx) Bool.false_ne_true
 | str a=>
   obtain⟨t',rfl⟩:=ry;cases x with
   | non=>cases rx;exact SeqAt.EqAt.str_none a t'
   | bl b=>cases rx;exact SeqAt.EqAt.str_bool a t' b
   | int b=>obtain⟨t,rfl⟩:=rx;exact SeqAt.EqAt.str_int a t' b t
   | str b=>obtain⟨t,rfl⟩:=rx;exact SeqAt.EqAt.str_str a t' b t
   | _=>exact absurd (show false=true from fx) Bool.false_ne_true
 | _=>exact absurd (show false=true from fy) Bool.false_ne_true
noncomputable def eqU(x:V)(u:Value):Bool:=match u with
 | .none=>eqV .non x
 | .bool b=>eqV (.bl b) x
 | .int i _=>eqV (.int i) x
 | .str z _=>eqV (.str z) x
 | _=>false
theorem eqU_of{x y:V}{u:Value}(r:RelV y u)(f:flatV y=true):eqU x u=eqV y x:=by
 cases y with
 | non=>cases r;rfl
 | bl b=>cases r;rfl
 | int i=>obtain⟨t,rfl⟩:=r;rfl
 | str z=>obtain⟨t,rfl⟩:=r;rfl
 | _=>exact absurd (show false=true from f) Bool.false_ne_true
theorem any_eqU{x:V}:∀{xs:List V}{us:List Value},Vals xs us->xs.all flatV=true->us.any (eqU x)=xs.any fun y=>eqV y x
 | _,_,.nil,_=>rfl
 | y::xs,u::us,.cons r t,f=>by
   rw[List.all_cons,Bool.and_eq_true]at f;rw[List.any_cons,List.any_cons,eqU_of r f.1,any_eqU t f.2]
theorem mem_eqAt{A:Around}{s:Shared}{x:V}{v:Value}(rx:RelV x v)(fx:flatV x=true):∀{xs:List V}{us:List Value},Vals xs us->xs.all flatV=true -> ∀ u∈us,SeqAt.EqAt A s u v (eqU x u)
 | _,_,.nil,_=>fun u hu=>by cases hu
 | y::xs,u::us,.cons r t,f=>fun u' hu=>by
   rw[List.all_cons,Bool.and_eq_true]at f;rcases List.mem_cons.mp hu with rfl | hu
   · rw[eqU_of r f.1];exact eqAt_V r rx f.1 fx
   exact mem_eqAt rx fx t f.2 u' hu
noncomputable def inV(x:V)(xs:List V):Bool:=xs.any fun y=>eqV y x
noncomputable def rIn(K:W.Frag)(neg:Bool):R2:=fun x y H Q=>∃ p xs,y=.ref p/\(SqL K H p xs∨SqT K H p xs)/\flatV x=true/\xs.all flatV=true/\Q (.bl (if neg then !inV x xs else inV x xs)) H
theorem op_in_seq:OpR X (compareOp .In) (rIn X.K false):=by
 intro pins s σ H x y v u Q I rx ry h;obtain⟨p,xs,rfl,hq,fx,fs,q⟩:=h;cases ry;rcases hq with hq | hq
 · obtain⟨its,r,pl,hz⟩:=I.list hq
   refine SeqAt.in_listAt (eqU x) pl.isList (fun w hw=>mem_eqAt rx fx r fs w (by simpa using hw)) ⟨.bl _,H,I,rfl,?_⟩
   rw[show its.toArray.any (eqU x)=its.any (eqU x) by simp,any_eqU r fs]
   exact q
 obtain⟨its,r,pl,hz⟩:=I.tuple hq;refine SeqAt.in_tupleAt (eqU x) pl (fun w hw=>mem_eqAt rx fx r fs w (by simpa using hw)) ⟨.bl _,H,I,rfl,?_⟩
 rw[show its.toArray.any (eqU x)=its.any (eqU x) by simp,any_eqU r fs]
 exact q
theorem call_len_seq:CallR X (.builtin "len") (fun xs H Q=>∃ p ys,xs=[.ref p]/\(SqL X.K H p ys∨SqT X.K H p ys)/\Q (.int ys.length) H):=by
 intro pins s σ H xs us Q I r h;obtain⟨p,ys,rfl,hq,q⟩:=h;obtain⟨u,rfl,rx⟩:=vals1 r;cases rx;have hn:=line63;rcases hq with hq | hq
 · obtain⟨its,r',pl,hz⟩:=I.list hq
   have hlen:=r'.length;exact Calls.call_len_list pl.isList (by simp only[List.size_toArray] <;> omega) ⟨.int ys.length,H,I.tok _,⟨s.toks+1,by rw[List.size_toArray,hlen]⟩,q⟩
 obtain⟨its,r',pl,hz⟩:=I.tuple hq;have hlen:=r'.length;exact len_tuple pl (by simp only[List.size_toArray] <;> omega) ⟨.int ys.length,H,I.tok _,⟨s.toks+1,by rw[List.size_toArray,hlen]⟩,q⟩
noncomputable def tyV(K:W.Frag)(T:String)(x:V)(H:Hp):Prop:=match x with
 | .str _=>T="str"
 | .int _=>T="int"
 | .ref p=>(T="list" /\ ∃ xs,SqL K H p xs)∨(T="tuple" /\ ∃ o,K.lookup p=some o/\o.cls=.type "tuple" /\ o.dict=none) ∨
  (T="dict" /\ ((∃ kvs,H p=some (.dK kvs)) ∨ ∃ kvs,H p=some (.dT kvs)))∨(T="set" /\ ∃ S n,H p=some (.set S n))
 | _=>False
theorem tyV_is{pins:List (Addr×Obj)}{σ:St}{H:Hp}{s:Shared}{T:String}{x:V}{v:Value}(I:Inv X pins σ H s)(r:RelV x v)(ty:tyV X.K T x H) :
 s.TypeIs v T /\ ∀ a,v=.ref a -> ∃ ob,s.heap.get? a=some ob/\ob.dict=none:=by
 cases x with
 | str z=>
   obtain⟨t,rfl⟩:=r;cases (show T="str" from ty);exact⟨typeIs_str s z t,fun _ e=>nomatch e⟩
 | int i=>
   obtain⟨t,rfl⟩:=r;cases (show T="int" from ty);exact⟨typeIs_int s i t,fun _ e=>nomatch e⟩
 | ref p=>
   cases r;rcases ty with ⟨rfl,xs,hq⟩ | ⟨rfl,o,hk,hc,hd⟩ | ⟨rfl,hk⟩ | ⟨rfl,S,n,hk⟩
   · obtain⟨its,_,pl,_⟩:=I.list hq
     refine⟨pl.isList.typeIs,fun a e=>?_⟩;cases e;obtain⟨o,n,e,c,hd,_⟩:=pl;exact⟨o,e,hd⟩
   · refine⟨⟨o,I.kIn p o hk,hc⟩,fun a e=>?_⟩
     cases e;exact⟨o,I.kIn _ o hk,hd⟩
   · have z:∃ o,s.heap.get? p=some o/\o.ExactDict:=by
      rcases hk with ⟨kvs,hk⟩ | ⟨kvs,hk⟩
      · obtain⟨_,_,_,_,o,_,_,e,ex,_⟩:=I.hok p _ hk
        exact⟨o,e,ex⟩
      obtain⟨_,_,_,_,o,_,_,e,ex,_⟩:=I.hok p _ hk;exact⟨o,e,ex⟩
     obtain⟨o,e,ex⟩:=z;refine⟨⟨o,e,ex.1⟩,fun a e2=>?_⟩;cases e2;exact⟨o,e,ex.2.1⟩
   obtain⟨o,_,_,_,e,ex,_⟩:=I.hok p _ hk;refine⟨⟨o,e,ex.1⟩,fun a e2=>?_⟩;cases e2;exact⟨o,e,ex.2.1⟩
 | _=>exact False.elim ty
noncomputable def tBM(K:W.Frag)(T:String)(r:V->List V->Hp->VK->Prop)(to:TE)(t:TA):TE:=fun σ H Q=>to σ H fun x H1=>tyV K T x H1/\t σ H1 fun xs H2=>r x xs H2 Q
variable{o e:Expr}{es:List Expr}{to:TE}{t:TA}{name:Str}{apos cpos:Pos}{T id:String}{r:V->List V->Hp->VK->Prop}
theorem pe_bm(pa:PlainAttrs T)(slot:Slot T name id)(hty:typeOf (.builtin id)=pure (.type "method_descriptor"))(hm:MtR X id r)(ho:PE X o to)(ha:PA X (e::es) t)
 (hbase:attributeBase o name X.env (eval o X.env)=eval o X.env:=by rfl)
 (hfew:((backTo cpos (starEach (e::es) X.env)).all (fun x=>!x.1) && (backToKw cpos (keywordEach [] X.env)).all (fun x=>x.1.isSome)
  && decide ((e::es).length+([]:List Keyword).length+(if([]:List Keyword).isEmpty then 0 else 1) < 30))=true:=by rfl)
 (hline:(apos.endLine == cpos.line)=true:=by rfl) (hs:starEach (e::es) X.env=(false,eval e X.env)::starEach es X.env:=by rfl) (hplain:(backTo cpos (starEach es X.env)).any (·.1)=false:=by rfl) :
 PE X (.Call (.Attribute o name apos) (e::es) [] cpos) (tBM X.K T r to t):=by
 intro pins s σ H Q I h;refine wpAny_Call_method_late hbase hfew hline rfl (thn (ho pins s σ H _ I h) fun v s1 zz=>?_);obtain⟨x,H1,I1,r1,ty,q1⟩:=zz;obtain⟨h1,h2⟩:=tyV_is I1 r1 ty;refine⟨T,id,pa,slot,hty,h1,h2,?_⟩;have hA:=ha cpos pins s1 σ H1 _ I1 q1;rw[hs]at hA ⊢;refine Calls.callWith_builtin (by show(false || (backTo cpos (starEach es X.env)).any (·.1))=false;rw[hplain] <;> rfl) (Calls.evalArgs_plain ?_)
 exact thn hA fun us s2 ⟨vs,H2,I2,r2,q2⟩=>hm pins s2 σ H2 x vs v us Q I2 r1 r2 q2
/- xs.append(e),list.index on a module's tuple .. are MtR facts of 06m -/
end
end L2
namespace L2
open PySem PySem.Spec PyProof.Rows
noncomputable def MtM(X:Cx)(id:String)(r:V->List V->Hp->VK->Prop):Prop:=
 ∀(pins:List (Addr×Obj)) (s:Shared) (σ:St) (H:Hp) (x:V) (xs:List V) (v:Value) (us:List Value) (Q:VK),Inv X pins σ H s->RelV x v->Vals xs us->r x xs H Q ->
   wpAny (model X.prog X.w) X.A (call (.builtin id) (v::us)) (EP X pins σ Q) X.xe s
theorem Vals.one:∀{x:V}{us:List Value},Vals [x] us -> ∃ u,us=[u]/\RelV x u
 | _,_,.cons r .nil=>⟨_,rfl,r⟩
section
variable{X:Cx}{pins:List (Addr×Obj)}{σ:St}{H:Hp}{s:Shared}{l b:Addr}{xs ys zs:List V}
theorem Inv.lset{its its':List Value}{n:Nat}{f:Array Value->Array Value}{t':Nat}(I:Inv X pins σ H s)(hH:H l=some (.lst xs))
 (e:s.heap.get? l=some { cls:=.type "list",data:=.seq its.toArray n }) (hf:f its.toArray=its'.toArray) (hv:Vals ys its') (hz:ys.length<=sizeLine) :
 Inv X pins σ (upd H l (.lst ys)) { s with heap:=s.heap.update l (Obj.mapSeq f),toks:=t' }:=by
 have q:=PySem.IsL.update e f;rw[hf]at q;refine I.write (x:=l) (e:=l) (by rw[hH];exact trivial) (.inl rfl) (fun b' u hb hu=>(Heap.get?_update_other s.heap (Obj.mapSeq f) (Ne.symm hb)).trans hu) ⟨_,q⟩ ?_
 exact⟨hz,its',_,hv,q⟩
theorem Inv.lnew{its:List Value}{t':Nat}(I:Inv X pins σ H s)(hv:Vals ys its)(hz:ys.length<=sizeLine) :
 Inv X pins σ (upd H s.heap.objs.size (.lst ys)) { s with heap:=s.heap.push { cls:=.type "list",data:=.seq its.toArray },toks:=t' }:=
 I.laid (fun _ _ q=>Heap.get?_push_of_some _ q) (Nat.le_refl _) ⟨hz,its,0,hv,Heap.get?_push_size _ rfl⟩
theorem Inv.fresh(I:Inv X pins σ H s):H s.heap.objs.size=none:=I.hok.fresh (Nat.le_refl _)
theorem Inv.lstM(I:Inv X pins σ H s)(hH:H l=some (.lst xs)):xs.length<=sizeLine /\ ∃(its:List Value) (n:Nat),Vals xs its/\xs.length=its.length/\s.heap.get? l=some { cls:=.type "list",data:=.seq its.toArray n }:=by
 obtain⟨z,its,n,r,e⟩:=I.hok l _ hH;exact⟨z,its,n,r,r.length,e⟩
end
section
variable{X:Cx}
noncomputable def rAppend:V->List V->Hp->VK->Prop:=fun x vs H Q=>∃ l xs y,x=.ref l/\vs=[y]/\H l=some (.lst xs)/\xs.length < sizeLine/\Q .non (upd H l (.lst (xs++[y])))
theorem mt_append:MtM X "list.append" rAppend:=by
 intro pins s σ H x vs v us Q I rx rv h;obtain⟨l,xs,y,rfl,rfl,hH,hz,q⟩:=h;cases rx;obtain⟨u,rfl,ru⟩:=rv.one;obtain⟨z,its,n,r,hl,e⟩:=I.lstM hH;refine call_meets F.slot_list_append ⟨_,e,rfl⟩ F.entry_list_append (F.args_list_append_2 _ _) (PySem.list_append l its.toArray n u (by rw[List.size_toArray];omega)) ⟨e,?_⟩
 refine⟨.non,_,I.lset (its':=its++[u]) hH e (by simp) (r.append (.cons ru .nil)) ?_,rfl,q⟩
 rw[List.length_append,List.length_singleton];omega
noncomputable def rCat:R2:=fun x y H Q=>∃ l b xs zs,x=.ref l/\y=.ref b/\H l=some (.lst xs)/\H b=some (.lst zs)/\xs.length+zs.length<=sizeLine /\ ∀ p,H p=none->Q (.ref p) (upd H p (.lst (xs++zs)))
theorem op_cat:OpR X (binaryOp .Add) rCat:=by
 intro pins s σ H x y v u Q I rx ry h;obtain⟨l,b,xs,zs,rfl,rfl,hH,hB,hz,q⟩:=h;cases rx;cases ry;obtain⟨z,its,n,r,hl,e⟩:=I.lstM hH;obtain⟨z2,its2,n2,r2,hl2,e2⟩:=I.lstM hB;refine PySem.P.add_list e e2 ?_ (by rw[List.size_toArray,List.size_toArray];omega)
 have ea:its.toArray++its2.toArray=(its++its2).toArray:=by simp
 rw[ea];exact⟨.ref _,_,I.lnew (t':=s.toks) (r.append r2) (by rw[List.length_append];omega),rfl,q _ I.fresh⟩
end
section
variable{prog:Program}{w:World}{A:Around}{E:Value->Shared->Prop}{s:Shared}
set_option maxRecDepth 100000 in
end
section
variable{X:Cx}
end
end L2
namespace L2
open PySem PySem.Spec PyProof.Rows
section
variable{κ:Type}[DecidableEq κ]
noncomputable def valV(kvs:List (κ × V))(k:κ):Option V:=(kvs.find? fun kv=>decide (kv.1=k)).map (·.2)
noncomputable def putK(kvs:List (κ × V))(k:κ)(v:V):List (κ × V):=
 if(kvs.any fun kv=>decide (kv.1=k))=true then kvs.map (fun kv=>if kv.1=k then(kv.1,v)else kv)else kvs++[(k,v)]
theorem valV_pos{p:κ × V}{r:List (κ × V)}{k:κ}(e:p.1=k):valV (p::r) k=some p.2:=by simp[valV,List.find?_cons,e]
theorem valV_neg{p:κ × V}{r:List (κ × V)}{k:κ}(e:¬ p.1=k):valV (p::r) k=valV r k:=by simp[valV,List.find?_cons,e]
theorem valV_any(k:κ):∀ kvs:List (κ × V),(kvs.any fun kv=>decide (kv.1=k))=(valV kvs k).isSome
 | []=>rfl
 | p::r=>by
   rw[List.any_cons];by_cases e:p.1=k
   · simp only[valV_pos e,decide_eq_true e,Bool.true_or,Option.isSome_some]
   rw[valV_neg e,decide_eq_false e,Bool.false_or];exact valV_any k r
theorem length_putK(kvs:List (κ × V))(k:κ)(v:V):(putK kvs k v).length<=kvs.length+1:=by
 unfold putK;split
 · rw[List.length_map];omega
 rw[List.length_append,List.length_cons,List.length_nil];omega
theorem RelO.isSome_eq{o:Option V}{u:Option Value}(r:RelO o u):o.isSome=u.isSome:=by
 cases o with
 | none=>cases u with
   | none=>rfl
   | some _=>exact(show False from r).elim
 | some _=>cases u with
   | none=>exact(show False from r).elim
   | some _=>rfl
theorem RelO.getD{o:Option V}{u:Option Value}{d:V}{d':Value}(r:RelO o u)(rd:RelV d d'):RelV (o.getD d) (u.getD d'):=by
 cases o with
 | none=>cases u with
   | none=>exact rd
   | some _=>exact(show False from r).elim
 | some _=>cases u with
   | none=>exact(show False from r).elim
   | some _=>exact r
theorem KV.val{kvs:List (κ × V)}{vs:List (κ × Value)}(r:KV kvs vs)(k:κ):RelO (valV kvs k) (valueAt vs k):=by
 unfold KV at r
 induction r with
 | nil=>exact True.intro
 | @cons p q ps qs h t ih=>
   obtain⟨h1,h2⟩:=h;by_cases e:p.1=k
   · have e':q.1=k:=h1.symm.trans e
     have b:valueAt (q::qs) k=some q.2:=by simp[valueAt,List.find?_cons,e']
     rw[valV_pos e,b];exact h2
   have e':¬ q.1=k:=fun z=>e (h1.trans z);have b:valueAt (q::qs) k=valueAt qs k:=by simp[valueAt,List.find?_cons,e']
   rw[valV_neg e,b];exact ih
theorem KV.any{kvs:List (κ × V)}{vs:List (κ × Value)}(r:KV kvs vs)(k:κ):(kvs.any fun kv=>decide (kv.1=k))=vs.any fun kv=>decide (kv.1=k):=by
 unfold KV at r
 induction r with
 | nil=>rfl
 | cons h t ih=>rw[List.any_cons,List.any_cons,ih,h.1]
theorem KV.repl{kvs:List (κ × V)}{vs:List (κ × Value)}(r:KV kvs vs)(k:κ){y:V}{u:Value}(ry:RelV y u) :
 KV (kvs.map fun kv=>if kv.1=k then(kv.1,y)else kv) (vs.map fun kv=>if kv.1=k then(kv.1,u)else kv):=by
 unfold KV at r ⊢
 induction r with
 | nil=>exact .nil
 | @cons p q ps qs h t ih=>
   rw[List.map_cons,List.map_cons];refine .cons ?_ ih;obtain⟨h1,h2⟩:=h;by_cases e:p.1=k
   · rw[if_pos e,if_pos (h1.symm.trans e)];exact⟨h1,ry⟩
   rw[if_neg e,if_neg (fun z=>e (h1.trans z))];exact⟨h1,h2⟩
theorem KV.put{kvs:List (κ × V)}{vs:List (κ × Value)}(r:KV kvs vs)(k:κ){y:V}{u:Value}(ry:RelV y u):KV (putK kvs k y) (stored vs k u):=by
 unfold putK stored;rw[r.any k];by_cases e:(vs.any fun kv=>decide (kv.1=k))=true
 · rw[if_pos e,if_pos e];exact r.repl k ry
 rw[if_neg e,if_neg e];exact Paired.snoc r ⟨rfl,ry⟩
theorem KV.length{kvs:List (κ × V)}{vs:List (κ × Value)}(r:KV kvs vs):kvs.length=vs.length:=Paired.length r
end
theorem kV_is{P:Program}{w:World}{k:Key}{u:Value}(r:RelV (kV k) u):(mixKind P w).is k u=true:=by
 cases k with
 | inl i=>obtain⟨t,e⟩:=(show ∃ t,u=Value.int i t from r);subst e;exact mixKind_int P w i t
 | inr x=>obtain⟨t,e⟩:=(show ∃ t,u=Value.str x t from r);subst e;exact mixKind_str P w x t
theorem items_are{P:Program}{w:World}:∀{ks:List Key}{us:List Value},Vals (ks.map kV) us->ItemsAre (mixKind P w) ks us
 | [],_,r=>by rw[List.map_nil]at r;cases r;exact .nil
 | k::ks,_,r=>by
   rw[List.map_cons]at r;cases r with
   | cons h t=>exact .cons (kV_is h) (items_are t)
noncomputable abbrev KT(H:Hp):List (List Key×V)->List (List Key×Addr×Value)->Prop:=Paired fun p q=>p.1=q.1/\H q.2.1=some (.tup (p.1.map kV))/\RelV p.2 q.2.2
theorem KT.val{H:Hp}{kvs:List (List Key×V)}{xs:List (List Key×Addr×Value)}(r:KT H kvs xs)(k:List Key):RelO (valV kvs k) ((atKey xs k).map (·.2)):=by
 induction r with
 | nil=>exact True.intro
 | @cons p q ps qs h t ih=>
   obtain⟨h1,_,h2⟩:=h;by_cases e:p.1=k
   · have e':q.1=k:=h1.symm.trans e
     have b:atKey (q::qs) k=some q.2:=by simp[atKey,List.find?_cons,e']
     rw[valV_pos e,b];exact h2
   have e':¬ q.1=k:=fun z=>e (h1.trans z);have b:atKey (q::qs) k=atKey qs k:=by simp[atKey,List.find?_cons,e']
   rw[valV_neg e,b];exact ih
theorem KT.repl{H:Hp}{kvs:List (List Key×V)}{xs:List (List Key×Addr×Value)}(r:KT H kvs xs)(k:List Key){y:V}{u:Value}(ry:RelV y u) :
 KT H (kvs.map fun kv=>if kv.1=k then(kv.1,y)else kv) (xs.map (putAt k u)):=by
 induction r with
 | nil=>exact .nil
 | @cons p q ps qs h t ih=>
   rw[List.map_cons,List.map_cons];refine .cons ?_ ih;obtain⟨h1,h2,h3⟩:=h;unfold putAt;by_cases e:p.1=k
   · rw[if_pos e,if_pos (h1.symm.trans e)];exact⟨h1,h2,ry⟩
   rw[if_neg e,if_neg (fun z=>e (h1.trans z))];exact⟨h1,h2,h3⟩
theorem KT.put{H:Hp}{kvs:List (List Key×V)}{xs:List (List Key×Addr×Value)}(r:KT H kvs xs)(k:List Key){b:Addr}{y:V}{u:Value}(hb:H b=some (.tup (k.map kV)))(ry:RelV y u) :
 KT H (putK kvs k y) (storedH xs k b u):=by
 have e:(kvs.any fun kv=>decide (kv.1=k))=(atKey xs k).isSome:=by
  rw[valV_any,(r.val k).isSome_eq,Option.isSome_map]
 unfold putK storedH;rw[e];by_cases q:(atKey xs k).isSome=true
 · rw[if_pos q,if_pos q];exact r.repl k ry
 rw[if_neg q,if_neg q];exact Paired.snoc r ⟨rfl,hb,ry⟩
theorem KT.keeps{H H':Hp}{kvs:List (List Key×V)}{xs:List (List Key×Addr×Value)}(r:KT H kvs xs)(ht:∀ b ys,H b=some (.tup ys)->H' b=some (.tup ys)):KT H' kvs xs:=
 Paired.mapP r fun _ _ z=>⟨z.1,ht _ _ z.2.1,z.2.2⟩
section
variable{P:Program}{w:World}{H:Hp}{h:Heap}{a:Addr}
theorem rd_of{u:HO}(ok:HOk P w H h)(e:Rd H a u):ObjOk P w H h a u:=e.ok ok
theorem dk_rd{kvs:List (Key×V)}(ok:HOk P w H h)(e:Rd H a (.dK kvs)):kvs.length<=sizeLine/\(a == sysModules)=false /\ ∃ vs,KV kvs vs/\h.DictOf (mixKind P w) a vs:=
 show ObjOk P w H h a (.dK kvs)from rd_of ok e
theorem dk_of{kvs:List (Key×V)}(ok:HOk P w H h)(e:H a=some (.dK kvs)):kvs.length<=sizeLine/\(a == sysModules)=false /\ ∃ vs,KV kvs vs/\h.DictOf (mixKind P w) a vs:=dk_rd ok (.inl e)
theorem key_of{ks:List Key}(ok:HOk P w H h)(e:H a=some (.tup (ks.map kV))):(tupleKind (mixKind P w)).is h ks a:=by
 obtain⟨_,its,r,o,h1,h2,n,h3⟩:=(show ObjOk P w H h a (.tup (ks.map kV))from ok a _ e);exact⟨o,its.toArray,n,h1,h2,h3,by simpa using items_are r⟩
theorem dt_rd{kvs:List (List Key×V)}(ok:HOk P w H h)(e:Rd H a (.dT kvs)):kvs.length<=sizeLine/\(a == sysModules)=false /\
 ∃ xs,KT H kvs xs/\h.DictOfH (tupleKind (mixKind P w)) a xs:=by
 obtain⟨z,y,xs,r,o,es,ep,h1,h2,h3,h4,h5⟩:=(show ObjOk P w H h a (.dT kvs)from rd_of ok e);refine⟨z,y,xs,r,o,es,ep,h1,h2,h3,h4,fun x hx=>?_,h5⟩;have all:∀{l:List (List Key×V)}{m:List (List Key×Addr×Value)},KT H l m -> ∀ x∈m,(tupleKind (mixKind P w)).is h x.1 x.2.1:=by
  intro l m q
  induction q with
  | nil=>intro x hx;exact nomatch hx
  | @cons p q ps qs hq t ih=>
    intro x hx;rcases List.mem_cons.mp hx with e | hx
    · subst e
      exact key_of ok (by rw[← hq.1];exact hq.2.1)
    exact ih x hx
 exact all r x hx
theorem dt_of{kvs:List (List Key×V)}(ok:HOk P w H h)(e:H a=some (.dT kvs)):kvs.length<=sizeLine/\(a == sysModules)=false /\
 ∃ xs,KT H kvs xs/\h.DictOfH (tupleKind (mixKind P w)) a xs:=dt_rd ok (.inl e)
end
noncomputable def DGet(H:Hp)(a:Addr)(y:V)(r:Option V):Prop:=
 (∃ kvs k,Rd H a (.dK kvs)/\y=kV k/\r=valV kvs k) ∨ ∃ kvs k b,Rd H a (.dT kvs)/\y=.ref b/\H b=some (.tup (k.map kV))/\r=valV kvs k
noncomputable def DPut(H:Hp)(a:Addr)(y v:V)(H':Hp):Prop:=
 (∃ kvs k,H a=some (.dK kvs)/\y=kV k/\kvs.length < sizeLine/\H'=upd H a (.dK (putK kvs k v))) ∨
 ∃ kvs k b,H a=some (.dT kvs)/\y=.ref b/\H b=some (.tup (k.map kV))/\kvs.length < sizeLine/\H'=upd H a (.dT (putK kvs k v))
theorem DGet.k{H:Hp}{a:Addr}{kvs:List (Key×V)}{k:Key}(e:H a=some (.dK kvs)):DGet H a (kV k) (valV kvs k):=.inl ⟨kvs,k,.inl e,rfl,rfl⟩
theorem DPut.k{H:Hp}{a:Addr}{kvs:List (Key×V)}{k:Key}{v:V}(e:H a=some (.dK kvs))(hl:kvs.length < sizeLine):DPut H a (kV k) v (upd H a (.dK (putK kvs k v))):=.inl ⟨kvs,k,e,rfl,hl,rfl⟩
section
variable{X:Cx}{pins:List (Addr×Obj)}{σ:St}{H:Hp}{s:Shared}{a:Addr}{y v:V}{u r:Value}{o:Option V}{A:Around}{E:Value->Shared->Prop}
theorem Inv.big(I:Inv X pins σ H s):sysModules < s.heap.objs.size:=by
 have h:mainGlobals < s.heap.objs.size:=(I.mod.glob.keeps I.bk).lt;exact Nat.lt_trans (by decide) h
theorem d_write{h':Heap}{t':Nat}{ob:HO}(I:Inv X pins σ H s)(mu:Mut (H a))(hs:Heap.SameBut a s.heap h')(he:∃ q,h'.get? a=some q)(new:ObjOk X.prog X.w (upd H a ob) h' a ob) :
 Inv X pins σ (upd H a ob) { s with heap:=h',toks:=t' }:=
 I.write (x:=a) (e:=a) mu (.inl rfl) (fun b q hb z=>(hs.2 b hb).trans z) he new
theorem dk_new{P:Program}{w:World}{H':Hp}{h':Heap}{kvs:List (Key×V)}{vs:List (Key×Value)}(z:kvs.length<=sizeLine)(hd:(a == sysModules)=false)(rel:KV kvs vs)(dd:h'.DictOf (mixKind P w) a vs) :
 ObjOk P w H' h' a (.dK kvs):=⟨z,hd,vs,rel,dd⟩
theorem d_setItem{H':Hp}{Q:Unit->Shared->Prop}(hu:A.units+1 < cLine)(I:Inv X pins σ H s)(g:DPut H a y v H')(ry:RelV y u)(rv:RelV v r)(h:∀ s',Inv X pins σ H' s'->Q () s') :
 wpAny (model X.prog X.w) A (setItem (.ref a) u r) Q E s:=by
 rcases g with ⟨kvs,k,e,ey,l,eH⟩ | ⟨kvs,k,b,e,ey,eb,l,eH⟩
 · subst ey eH
   obtain⟨z,hd,vs,rel,dd⟩:=dk_of I.hok e;have hz:vs.length<=sizeLine:=by rw[← rel.length];exact z
   have hl:(putK kvs k v).length<=sizeLine:=by have:=length_putK kvs k v;omega
   refine wpAny_setItem_pairs (hsz:=hz) (kV_is ry) dd fun h' dd' hs=>h _ ?_;have he:∃ q,h'.get? a=some q:=let⟨q,_,_,hq,_⟩:=dd';⟨q,hq⟩;exact d_write I (by rw[e];exact True.intro) hs he (dk_new hl hd (rel.put k rv) dd')
 subst ey eH;cases (show u=Value.ref b from ry);obtain⟨z,hd,xs,rel,dd⟩:=dt_of I.hok e;have hz:xs.length<=sizeLine:=by rw[← Paired.length rel];exact z
 have hl:(putK kvs k v).length<=sizeLine:=by have:=length_putK kvs k v;omega
 refine wpAny_setItem_heap (hsz:=hz) (tupleKind_room_in1 hu) (key_of I.hok eb) dd fun h' dd' hs=>h _ ?_;obtain⟨q,es,ep,hq,h2,h3,h4,_,h5⟩:=dd';refine d_write I (by rw[e];exact True.intro) hs ⟨q,hq⟩ ⟨hl,hd,_,(rel.put k eb rv).keeps fun c ys ec=>?_,q,es,ep,hq,h2,h3,h4,h5⟩
 rw[upd_ne (ne_of ec e (fun z=>nomatch z))];exact ec
end
section
variable{X:Cx}{pins:List (Addr×Obj)}{σ:St}{H:Hp}{s:Shared}{a:Addr}{kvs:List (Key×V)}{k:Key}{u:Value}{A:Around}{E:Value->Shared->Prop}
end
noncomputable def sDPut(td ty tv:TE):TS:=fun D σ H=>tv σ H fun v H1=>td σ H1 fun x H2=>ty σ H2 fun y H3=>∃ a H4,x=.ref a/\DPut H3 a y v H4/\D.nx σ H4
section
variable{X:Cx}{o i e value:Expr}{pos pos' tpos:Pos}{td ty tv:TE}
theorem ps_dput(hu:X.A.units+1 < cLine)(ho:PE X o td)(hi:PE X i ty)(hv:PE X value tv)(hs:swapsWith value (some (.Subscript o i pos')) pos.line X.env=pure false) :
 PS X (.Assign [.Subscript o i pos'] value pos) (sDPut td ty tv):=by
 intro pins s σ H D I h;refine wpAny_Assign_Subscript (thn (hv pins s σ H _ I h) fun r s1 ⟨v,H1,I1,rv,q1⟩=>thn (ho pins s1 σ H1 _ I1 q1) fun u s2 ⟨x,H2,I2,rx,q2⟩=>thn (hi pins s2 σ H2 _ I2 q2) fun iv s3 ⟨y,H3,I3,ry,a,H4,ex,g,q3⟩=>?_) hs;subst ex;obtain rfl:u=Value.ref a:=rx;exact d_setItem hu I3 g ry rv fun s4 I4=>⟨σ,H4,I4,q3⟩
end
theorem dk_empty{P:Program}{w:World}{H:Hp}(h:Heap)(hb:sysModules < h.objs.size):ObjOk P w H (h.push { cls:=.type "dict",data:=.dict #[] }) h.objs.size (.dK []):=
 ⟨Nat.zero_le _,beq_eq_false_iff_ne.mpr (Ne.symm (Nat.ne_of_lt hb)),[],.nil,Heap.DictOf.new h⟩
noncomputable def tDNewK:TE:=fun _ H Q=>∀ p,H p=none->Q (.ref p) (upd H p (.dK []))
section
variable{X:Cx}{pos:Pos}
theorem pe_dnewK:PE X (.Dict [] [] pos) tDNewK:=fun pins s σ H Q I h=>
 wpAny_Dict_empty ⟨.ref s.heap.objs.size,_,I.laid (a:=s.heap.objs.size) (o:=.dK []) (t':=s.toks) (fun _ _ q=>Heap.get?_push_of_some _ q) (Nat.le_refl _) (dk_empty s.heap I.big),rfl,h _ (I.hok.fresh (Nat.le_refl _))⟩
end
structure M1(X:Cx)(o:Expr)(m:Str)(apos:Pos)(e:Expr)(cpos:Pos):Prop where
 base:attributeBase o m X.env (eval o X.env)=eval o X.env
 few:((backTo cpos (starEach [e] X.env)).all (fun x=>!x.1) && (backToKw cpos (keywordEach [] X.env)).all (fun x=>x.1.isSome)
  && decide (([e]:List Expr).length+([]:List Keyword).length+(if([]:List Keyword).isEmpty then 0 else 1) < 30))=true
 line:(apos.endLine == cpos.line)=true
 trees:backTo cpos (starEach [e] X.env)=[(false,eval e X.env)]
noncomputable def IsD(H:Hp)(a:Addr):Prop:=(∃ kvs,Rd H a (.dK kvs)) ∨ ∃ kvs,Rd H a (.dT kvs)
theorem isD_at{X:Cx}{pins:List (Addr×Obj)}{σ:St}{H:Hp}{s:Shared}{a:Addr}(I:Inv X pins σ H s)(d:IsD H a) :
 s.TypeIs (.ref a) "dict" /\ (∀ b,Value.ref a=.ref b -> ∃ ob,s.heap.get? b=some ob/\ob.dict=none)/\(a == sysModules)=false:=by
 rcases d with ⟨kvs,e⟩ | ⟨kvs,e⟩
 · obtain⟨_,hd,vs,_,dd⟩:=dk_rd I.hok e
   refine⟨dd.typeIs,fun b q=>?_,hd⟩;cases q;obtain⟨ob,_,_,h1,h2,_⟩:=dd;exact⟨ob,h1,h2.2.1⟩
 obtain⟨_,hd,xs,_,dd⟩:=dt_rd I.hok e;refine⟨dd.typeIs,fun b q=>?_,hd⟩;cases q;obtain⟨ob,_,_,h1,h2,_⟩:=dd;exact⟨ob,h1,h2.2.1⟩
section
variable{X:Cx}{pins:List (Addr×Obj)}{σ:St}{H:Hp}{s:Shared}{a:Addr}{y d:V}{u r:Value}{o:Option V}{A:Around}{E:Value->Shared->Prop}
theorem d_get1{Q:Value->Shared->Prop}(hu:A.units+1 < cLine)(I:Inv X pins σ H s)(g:DGet H a y o)(ry:RelV y u)(h:∀ w' s',Inv X pins σ H s'->RelV (o.getD .non) w'->Q w' s') :
 wpAny (model X.prog X.w) A (call (.builtin "dict.get") [.ref a,u]) Q E s:=by
 rcases g with ⟨kvs,k,e,ey,l⟩ | ⟨kvs,k,b,e,ey,eb,l⟩
 · subst ey
   obtain⟨z,hd,vs,rel,dd⟩:=dk_rd I.hok e;refine call_meetsIn PySem.F.slot_dict_get dd.typeIs PySem.F.entry_dict_get (PySem.F.args_dict_get_2 _ _) (meets_dict_get (mixKind X.prog X.w) a (kV_is ry) hd) ⟨_,dd.mapOf,h _ _ (I.tok _) ?_⟩;rw[l];exact(rel.val k).getD rfl
 subst ey;cases (show u=Value.ref b from ry);obtain⟨z,hd,xs,rel,dd⟩:=dt_rd I.hok e;refine call_meetsIn PySem.F.slot_dict_get dd.typeIs PySem.F.entry_dict_get (PySem.F.args_dict_get_2 _ _) (meetsH_dict_get (tupleKind (mixKind X.prog X.w)) a b hd) ⟨tupleKind_room_in1 hu,k,xs,key_of I.hok eb,dd,h _ _ (I.tok _) ?_⟩;rw[l];exact(rel.val k).getD rfl
end
noncomputable def tDGet1(td ty:TE):TE:=fun σ H Q=>td σ H fun x H1=>∃ a,x=.ref a/\IsD H1 a/\ty σ H1 fun y H2=>∃ o,DGet H2 a y o/\Q (o.getD .non) H2
section
variable{X:Cx}{o e f:Expr}{apos cpos:Pos}{td ty tx:TE}
theorem pe_dget1(hu:X.A.units+1 < cLine)(ho:PE X o td)(he:PE X e ty)(m:M1 X o "get" apos e cpos):PE X (.Call (.Attribute o "get" apos) [e] [] cpos) (tDGet1 td ty):=by
 intro pins s σ H Q I h;refine wpAny_Call_method m.base m.few m.line PySem.F.plainAttrs_dict PySem.F.slot_dict_get PySem.F.type_dict_get (thn (ho pins s σ H _ I h) fun u s1 zz=>?_);obtain⟨x,H1,I1,rx,a,ex,d,q1⟩:=zz;subst ex;obtain rfl:u=Value.ref a:=rx;obtain⟨t1,t2,_⟩:=isD_at I1 d;refine⟨t1,t2,?_⟩;rw[m.trees];refine Calls.callWith_builtin rfl (Calls.evalArgs_plain (Calls.spliced_cons (thn (he pins s1 σ H1 _ I1 q1) fun iv s2 ⟨y,H2,I2,ry,ov,g,q2⟩=>Calls.spliced_nil ?_)));exact d_get1 hu I2 g ry fun w' s3 I3 rw'=>⟨_,H2,I3,rw',q2⟩
end
section
variable{X:Cx}{pins:List (Addr×Obj)}{σ:St}{H:Hp}{s:Shared}{a:Addr}{kvs:List (Key×V)}{A:Around}{E:Value->Shared->Prop}
end
section
variable{X:Cx}{pins:List (Addr×Obj)}{σ:St}{H:Hp}{s:Shared}{a:Addr}{y:V}{u:Value}{A:Around}{E:Value->Shared->Prop}
end
end L2
namespace Att
open PySem PySem.W PySem.Calls PyProof.Rows
theorem ints_of_wellAll{P:Params}{h:Heap}:∀(ns:List Int) (vs:List Value),WellAll P h vs (ns.map WData.int)->IntsAre vs ns:=by
 intro ns
 induction ns with
 | nil=>
   intro vs w;rw[List.map_nil]at w;cases w;exact .nil
 | cons n ns ih=>
   intro vs w;rw[List.map_cons]at w;cases w with
   | cons a b=>
     cases a;exact .cons _ _ (ih _ b)
theorem script_of{l:OpenLaw}{n:Nat}(hn:l.most=some n){P:Params}{h:Heap}{args:List WData}{vals:List Value}
 (hpre:l.row.toRowW.claim.pre args=true) (hwl:WellAll P h vals args) :
 ∃ a vs ns,vals=[Value.ref a]/\args=[WData.list (ns.map WData.int)]/\h.get? a=some { cls:=.type "list",data:=.seq vs.toArray } /\ IntsAre vs ns/\ns.length<=n:=by
 have hsh:WShape.hasAll [] args [.list .int]=true:=(pre_splitW hpre).1;have hc:l.pre.holds [] { args:=args }=true:=(pre_splitW hpre).2;obtain⟨d,r,rfl,h1,h2⟩:=hasAllW_cons hsh;obtain rfl:=hasAllW_nil h2;obtain⟨xs,rfl,h3⟩:=hasW_list h1;obtain⟨ns,rfl⟩:=items_int h3;have hlen:ns.length<=n:=by
  unfold OpenLaw.pre at hc;have h4:(WTm.not (.lt (.lit (.int (n:Int))) (.len (.arg 0)))).holds [] { args:=[.list (ns.map .int)] }=true:=by
   have h4:=(holds_andW hc).1;rw[hn]at h4;exact h4
  have h5:=condW_of h4 (w_not (w_lt w_lit (w_len_list (w_arg rfl))));rw[List.length_map]at h5;refine Nat.le_of_not_lt fun q=>?_;have q':(n:Int) < ((ns.length:Nat):Int):=by omega
  first
   | (rw[decide_eq_true q']at h5;exact absurd h5 (by decide))
   | (simp at h5;omega)
 cases hwl with
 | cons w1 w2=>
   cases w2;cases w1 with
   | list ho hall=>exact⟨_,_,ns,rfl,rfl,ho,ints_of_wellAll ns _ hall,hlen⟩
theorem post_true(l:OpenLaw)(args:List WData):l.row.toRowW.claim.post args (.bool true) args=true:=
 postW_of (r:=l.row.toRowW) (X:=(true == true))
  (show WShape.has [] (.bool true) .bool=true by first | rfl | decide | simp[WShape.has,WShape.arms,WShape.armsAll])
  (show(WTm.eq .res (.lit (.bool true))).value [] { args:=args,res:=some (.bool true),after:=args }=some (.bool (true == true))from w_eq_bool (w_res rfl) w_lit) rfl
theorem attach_call{l:OpenLaw}{n:Nat}{q:Program}{loose:List Str}{XP:(Str->Option Value)->Heap->Prop}{YP:World->Heap->Prop}{d:DefRec}
 (hn:l.most=some n) (hdf:d.params.defaults=[])
 (call:∀(w:World) (s₀ s₁:Shared) (mg mb:Str->Option Value) (fa:Addr) (o:Obj) (pm cd doc:Value) (a:Addr) (vs:List Value) (ns:List Int),
  Ground q loose [] XP w s₀ mg mb s₁.heap->YP w s₁.heap ->
  s₁.heap.get? fa=some o->o.data=.func (docDef d.name d.params d.body d.scope pm cd doc)->s₁.heap.CodeRec cd d.name->mg d.name=some (.ref fa) ->
  s₁.heap.get? a=some { cls:=.type "list",data:=.seq vs.toArray } -> IntsAre vs ns->ns.length<=n->s₁.gens=#[] ->
  codeAny (model l.prog w) callerA (.call (.ref fa) ⟨[.ref a],[]⟩) (fun r s'=>r=.ok (.ret (.bool true))/\OldK s₁.heap s'.heap/\s'.os=s₁.os/\AllBare s'.gens) s₁) :
 WalkO q loose XP YP l.row.toRowW d [] (fun f vs=>PySem.call f vs):=by
 intro w s₀ s₁ mg mb G Y fa o pm cd doc dV kV ho hd hcd hD hmg hg args vals as hpre hlay hrd hwl hlo;obtain rfl:dV=.none:=Dflts.none hD hdf;obtain rfl:kV=.none:=Dflts.noKw hD;obtain⟨a,vs,ns,rfl,rfl,hobj,hints,hlen⟩:=script_of hn hpre hwl;refine enter_call (codeAny_mono (call w s₀ s₁ mg mb fa o pm cd doc a vs ns G Y ho (fd_plain hd) hcd hmg hobj hints hlen hg) fun r s' hq=>?_);obtain⟨rfl,h2,h3,h4⟩:=hq;exact⟨.inl ⟨.bool true,.bool true,[],rfl,fun _=>rfl,.bool true,post_true l _,fun _=>⟨List.Pairwise.nil,fun _ hm=>(nomatch hm)⟩⟩,h2,h3,h4⟩
section
variable{prog:Program}{w:World}{A:Around}{E:Value->Shared->Prop}{s:Shared}{K:Frag}
end
end Att
namespace L2
open PySem PySem.Spec PyProof.Rows
theorem vals_ints:∀{vs:List Value}{ns:List Int},IntsAre vs ns->Vals (ns.map V.int) vs
 | _,_,.nil=>.nil
 | _,_,.cons n t h=>.cons ⟨t,rfl⟩ (vals_ints h)
noncomputable def Only(H:Hp):Prop:=∀ b,H b=none ∨ ∃ o xs,H b=some (.frz o (.lst xs))
theorem law_call{P:Program}{w:World}{K:W.Frag}{mg mb:Str->Option Value}{CX:CXT}{k:Nat}{fa a:Addr}{fd:FuncData}{x:Str}{sp:Sp}{s₁:Shared}{vs:List Value}{ns:List Int}
 (KX:K.In s₁.heap) (hns:s₁.heap.Ns mainGlobals mg) (hb:s₁.heap.Ns builtinsNs mb) (hbb:∀ x:Str,x ≠ "__name__" -> mb x=bootBuiltins x) (hlim:s₁.heap.NoLimit) (hg:s₁.gens=#[])
 (ha:s₁.heap.get? a=some { cls:=.type "list",data:=.seq vs.toArray }) (hi:IntsAre vs ns) (hl:ns.length<=sizeLine) (hr:Room k callerA)
 (F:∀ base:Heap,K.In base->base.Ns mainGlobals mg->FnOk P w K mg base CX k fa fd [x] sp) (hbind:∀(s:Shared) (u:Value),BindsTo s fd ⟨[u],[]⟩ [(x,u)])
 (hsp:∀ H:Hp,Only H->SqL K H a (ns.map V.int)->sp [.ref a] H (fun v _=>v=.bl true) fun _ _ _=>False)
 (hCX:∀ H e s',CX [] H s₁ (fun _ _ _=>False) e s'->False) :
 codeAny (model P w) callerA (.call (.ref fa) ⟨[.ref a],[]⟩) (fun r s'=>r=.ok (.ret (.bool true))/\OldK s₁.heap s'.heap/\s'.os=s₁.os/\AllBare s'.gens) s₁:=by
 have rv:=vals_ints hi;have lenV:=hi.length
 -- from an abstract heap in which nothing but the script may be tracked
 have core:∀ H:Hp,Only H->SqL K H a (ns.map V.int)->HOk P w H s₁.heap->(∀ b,H b≠none->b=a)->(H a≠none->K.lookup a=none) ->
  codeAny (model P w) callerA (.call (.ref fa) ⟨[.ref a],[]⟩) (fun r s'=>r=.ok (.ret (.bool true))/\OldK s₁.heap s'.heap/\s'.os=s₁.os/\AllBare s'.gens) s₁:=by
  intro H hO hS hok hA hK;have base_of:∀{b:Addr}{o:Obj},s₁.heap.get? b=some o->H b=none->(hidT s₁.heap H).get? b=some o:=fun e n=>hidT_get e n;have noA:∀{b:Addr}{o:Obj}{es:Array DictEntry}{ep:Nat},s₁.heap.get? b=some o->o.data=.dict es ep->H b=none:=fun {b o es ep} e d=>by
   cases q:H b with
   | none=>rfl
   | some u=>
     have e':b=a:=hA b (by rw[q];simp)
     subst e';rw[ha]at e;cases e;have d':Data.seq vs.toArray _=Data.dict es ep:=d;cases d'
  have nsK:∀{b:Addr}{m:Str->Option Value},s₁.heap.Ns b m->(hidT s₁.heap H).Ns b m:=fun {b m} ⟨o,es,ep,e,d,r⟩=>⟨o,es,ep,base_of e (noA e d),d,r⟩;have hKb:K.In (hidT s₁.heap H):=fun b o e=>base_of (KX b o e) (by
   cases q:H b with
   | none=>rfl
   | some u=>
     have e':b=a:=hA b (by rw[q];simp)
     subst e';rw[hK (by rw[q];simp)]at e;cases e)
  have hM:Mod K mg (hidT s₁.heap H):=⟨hKb,nsK hns,⟨mb,nsK hb,hbb⟩,let⟨mc,h1,h2⟩:=hlim;⟨mc,nsK h1,h2⟩⟩;have e0:Env0 P w K mg (hidT s₁.heap H) callerA [] s₁ H:=⟨rfl,hM,fun b o e=>of_hidT e,Nat.le_of_eq (hidT_size _ _),trivial,fun b hb=>absurd (show b∈([]:List Addr)from hb) (by simp),hok,.of_eq hg⟩
  refine codeAny_mono ((F _ hKb (nsK hns)).run callerA [] s₁ H ⟨[.ref a],[]⟩ [.ref a] [.ref a] _ _ hr e0 (hbind s₁ (.ref a)) (.cons rfl .nil) (hsp H hO hS)) fun r s' h=>?_;cases r with
  | error e=>exact(hCX H e s' h).elim
  | ok fl=>
    cases fl with
    | next=>exact False.elim h
    | brk=>exact False.elim h
    | cont=>exact False.elim h
    | ret u=>
      obtain⟨v,H',os,bare,un,hok',r',q⟩:=h;have q':v=.bl true:=q;subst q';obtain rfl:u=Value.bool true:=r';refine⟨rfl,OldK.of_keep fun b o e=>?_,os,bare⟩;cases q:H b with
      | none=>exact un.keep b o e q (by intro z;exact absurd (show b∈([]:List Addr)from z) (by simp)) (by simp)
      | some u=>
        rcases hO b with z | ⟨ob,xs,z⟩
        · rw[q]at z;cases z
        have z2:=un.frzs b ob _ z;obtain⟨e1,_⟩:=hok b _ z;obtain⟨e2,_⟩:=hok' b _ z2;rw[e]at e1;cases e1;exact e2
 cases hk:K.lookup a with
 | some o=>
   -- the script is one of the module's own objects
   have e:=KX a o hk;rw[ha]at e;cases e;refine core (fun _=>none) (fun _=>.inl rfl) (.inr ⟨_,vs.toArray,_,hk,rfl,rfl,rfl,by rw[List.size_toArray,lenV];exact hl,by simpa using rv⟩) (fun b u z=>by have z':(none:Option HO)=some u:=z;cases z') (fun b z=>absurd rfl z) fun z=>absurd rfl z
 | none=>
   refine core (fun b=>if b=a then some (.frz { cls:=.type "list",data:=.seq vs.toArray } (.lst (ns.map V.int)))else none) (fun b=>?_) (.inl (.inr ⟨{ cls:=.type "list",data:=.seq vs.toArray },if_pos rfl⟩)) (fun b u z=>?_) (fun b z=>?_) fun _=>hk
   · by_cases hb:b=a
     · exact .inr ⟨_,_,if_pos hb⟩
     exact .inl (if_neg hb)
   · by_cases hb:b=a
     · have z':=(if_pos hb).symm.trans z
       cases z';subst hb;exact⟨ha,by rw[List.length_map];exact hl,vs,_,rv,ha⟩
     have z':=(if_neg hb).symm.trans z;cases z'
   by_cases hb:b=a
   · exact hb
   exact absurd (if_neg hb) z
end L2
namespace L2
open PySem PySem.Spec PyProof.Rows
theorem walk_of{l:W.OpenLaw}{n k:Nat}{q:Program}{loose:List Str}{XP:(Str->Option Value)->Heap->Prop}{YP:World->Heap->Prop}{d:DefRec}{K:Params->W.Frag}{CX:World->CXT}{sp:World->Sp}{x:Str}
 (hn:l.most=some n) (hn2:n<=sizeLine) (hdf:d.params.defaults=[]) (hr:Room k callerA)
 (hY:∀(w:World) (h:Heap),YP w h->(K w.params).In h)
 (F:∀(w:World) (mg:Str->Option Value) (fa:Addr) (h:Heap),(K w.params).In h->h.Ns mainGlobals mg->mg d.name=some (.ref fa) ->
  ∃ fd:FuncData,(∀(s:Shared) (u:Value),BindsTo s fd ⟨[u],[]⟩ [(x,u)]) /\
    ∀ base:Heap,(K w.params).In base->base.Ns mainGlobals mg->FnOk l.prog w (K w.params) mg base (CX w) k fa fd [x] (sp w))
 (hsp:∀(w:World) (H:Hp) (a:Addr) (ns:List Int),ns.length<=n->Only H->SqL (K w.params) H a (ns.map V.int)->sp w [.ref a] H (fun v _=>v=.bl true) fun _ _ _=>False)
 (hCX:∀(w:World) (H:Hp) (s:Shared) (e:Value) (s':Shared),CX w [] H s (fun _ _ _=>False) e s'->False) :
 W.WalkO q loose XP YP l.row.toRowW d [] (fun f vs=>PySem.call f vs):=by
 refine Att.attach_call hn hdf fun w s₀ s₁ mg mb fa o pm cd doc a vs ns G Y ho hd hcd hmg hobj hints hlen hg=>?_;have KX:=hY w _ Y;obtain⟨fd,hb,hF⟩:=F w mg fa _ KX G.T.g hmg;exact law_call KX G.T.g G.T.b G.T.builtins G.T.nolimit hg hobj hints (Nat.le_trans hlen hn2) hr hF hb (fun H hO hS=>hsp w H a ns hlen hO hS) fun H e s'=>hCX w H s₁ e s'
end L2
/- THE LAST THEOREM (shape;LID,My.* are yours):
   My.Adr: a structure of the addresses that your layer names (classes,functions);My.Txt K t: a structure (Prop) of the equations over K;
   My.txt_mk:{K}{implicit addresses ..} (e1:nsIn K mainGlobals "law"=some (some (.ref f))) (e2:K.lookup f=some ⟨oc,od,.func (fnOf "law" "law" params body scope dV kV doc pm an cdv ct),sl⟩) (e3:codeIn K cdv "law"=true) ..:∃ t,My.Txt K t
set_option maxRecDepth 100000 in
set_option maxHeartbeats 0 in
theorem PySem.Challenge.cw_LID_holds : PySem.Challenge.rw_LID.Holds := by
 w_on;o_law;k_head;(case hw=>w_witness2)
 k_fill
 refine L2.walk_of (l:=PySem.Challenge.rw_LID) (n:=63) (k:=40) (x:="script") (CX:=fun w=>..) (sp:=fun _=>My.sp_law) rfl (by decide) rfl ⟨rfl,by decide,by decide⟩ (fun w h Y=>W.kIn_of Y) ?F ?S ?C
 case F=>
  intro w mg fa h KX G hmg;have T:∃ t,My.Txt (L2.KOf KX) t:=by
   dsimp only[L2.KOf]                          -- K must stand as «<heap const> w.params» for k_is
   refine' My.txt_mk ?e1 ?e2 ?e3 ..
   (case e1=>W.k_is)                    -- in the order: a name->its address->its object->its parts
   (case e2=>W.k_is)
   ..
  obtain⟨t,T⟩:=T;have e0:=hmg.symm.trans (W.mg_of KX G T.law);cases e0                                       -- fa is the law's own address;exact⟨_,fun s u=>.of_eq rfl,fun base kb nb=>My.law_fn T kb nb⟩     -- if «.of_eq rfl» comes too early: refine' ⟨_,?b,fun base kb nb=>My.law_fn T kb nb⟩;exact fun s u=>.of_eq rfl
 case S=>exact fun w H a ns hl hO hS=>..
 case C=>exact ..
(the tactic k_is has no namespace: write k_is) -/
namespace L2
open PySem PySem.Spec PyProof.Rows
noncomputable def inClass(s:Stmt)(j:Nat):Stmt:=match s with
 | .ClassDef _ _ _ body _ _ _ _ _ _ _=>body.getD j (.Pass ⟨0,0,0,0⟩)
 | _=>.Pass ⟨0,0,0,0⟩
noncomputable def defArgs(s:Stmt):Arguments:=match s with
 | .FunctionDef _ a _ _ _ _ _ _ _ _=>a
 | _=>{ posonlyargs:=[],args:=[],vararg:=none,kwonlyargs:=[],kw_defaults:=[],kwarg:=none,defaults:=[] }
noncomputable def defBody(s:Stmt):List Stmt:=match s with
 | .FunctionDef _ _ b _ _ _ _ _ _ _=>b
 | _=>[]
noncomputable def defScope(s:Stmt):Scope:=match s with
 | .FunctionDef _ _ _ _ _ _ sc _ _ _=>sc
 | _=>{ kind:=.function,names:=[],isGenerator:=false,isCoroutine:=false }
noncomputable abbrev CX0:CXT:=fun _ _ _ _ _ _=>False
noncomputable abbrev E0:XK:=fun _ _ _=>False
theorem pass0{X:Cx}:Passes CX0 X E0:=fun _ _ _ _ _ _ _ h=>h.elim
structure Fun(K:W.Frag)(x qual:Str)(st:Stmt)(f:Addr)(fd:FuncData):Prop where
 ex:∃(oc:Value) (od:Option Addr) (kV doc pm:Value) (an:Option Addr) (cdv ct:Value) (osl:Array (Option Value)),
  fd=W.fnOf x qual (defArgs st) (defBody st) (defScope st) .none kV doc pm an cdv ct/\K.lookup f=some ⟨oc,od,.func fd,osl⟩/\W.codeIn K cdv qual=true
 kp:W.keepIn K (.ref f)=true
section
variable{P:Program}{w:World}{K:W.Frag}{mg:Str->Option Value}{base:Heap}
theorem Fun.ok{x qual:Str}{st:Stmt}{f:Addr}{fd:FuncData}{N ps:List Str}{k:Nat}{sp:Sp}(F:Fun K x qual st f fd)(S:FnScope N ps (defScope st))(len:∀ vs H Q E,sp vs H Q E->vs.length=ps.length)
 (hbody:∀(cdv:Value) (A:Around) (outer:List Env) (s:Shared) (H:Hp) (vs:List V) (Q:VK) (E:XK),Room k (A.deeper (envOfC qual (defScope st) s.heap.objs.size f cdv))->sp vs H Q E ->
  ∃ t,PSs (cxOf CX0 P w K mg base N qual (defScope st) f cdv A outer s H E).nox (defBody st) t/\t { nx:=fun _ H'=>Q .non H',rt:=Q } (start N vs) H):FnOk P w K mg base CX0 (k+1) f fd ps sp:=by
 obtain⟨oc,od,kV,doc,pm,an,cdv,ct,osl,rfl,lk,hcd⟩:=F.ex;refine fn_of lk hcd S len fun A outer s H vs Q E hr hsp=>?_;obtain⟨t,h,q⟩:=hbody cdv A outer s H vs Q E hr hsp;exact⟨t,h.nox,q⟩
theorem Fun.binds{x qual:Str}{st:Stmt}{f:Addr}{fd:FuncData}{ps:List Str}(F:Fun K x qual st f fd)
 (h:∀(kV doc pm:Value) (an:Option Addr) (cdv ct:Value) (us:List Value),us.length=ps.length->bindArgs (W.fnOf x qual (defArgs st) (defBody st) (defScope st) .none kV doc pm an cdv ct) ⟨us,[]⟩=pure (ps.zip us)):Binds K fd ps []:=by
 obtain⟨oc,od,kV,doc,pm,an,cdv,ct,osl,rfl,lk,hcd⟩:=F.ex;exact .all (h kV doc pm an cdv ct)
theorem fun_mk{x qual:Str}{st:Stmt}{f:Addr}{oc:Value}{od an:Option Addr}{osl:Array (Option Value)}{kV doc pm cdv ct:Value}(l:K.lookup f=some ⟨oc,od,.func (W.fnOf x qual (defArgs st) (defBody st) (defScope st) .none kV doc pm an cdv ct),osl⟩)
 (c:W.codeIn K cdv qual=true) (k:W.keepIn K (.ref f)=true):Fun K x qual st f (W.fnOf x qual (defArgs st) (defBody st) (defScope st) .none kV doc pm an cdv ct):=⟨⟨oc,od,kV,doc,pm,an,cdv,ct,osl,rfl,l,c⟩,k⟩
end
theorem hu_of{A:Around}{k:Nat}(hr:Room k A):A.units+1 < cLine:=Nat.lt_of_le_of_lt (Nat.add_le_add_left (by decide:1<=64) _) hr.units
section
variable{X:Cx}
end
theorem iteF{A B:Prop}(h:B):if false=true then A else B:=by
 rw[if_neg Bool.false_ne_true];exact h
theorem iteT{A B:Prop}(h:A):if true=true then A else B:=by
 rw[if_pos rfl];exact h
theorem ite2{c A B:Prop}[Decidable c](h1:c->A)(h2:¬ c->B):if c then A else B:=by
 by_cases h:c
 · rw[if_pos h]
   exact h1 h
 rw[if_neg h];exact h2 h
theorem iteNS{c A B:Prop}[Decidable c](hc:c)(h:B):if(!decide c)=true then A else B:=by
 rw[decide_eq_true hc];exact iteF h
noncomputable def Same(H H':Hp):Prop:=∀ b o,H b=some o->H' b=some o
theorem Same.trans{H H1 H2:Hp}(a:Same H H1)(b:Same H1 H2):Same H H2:=fun c o h=>b c o (a c o h)
theorem Same.free{H H':Hp}(e:Same H H'){l:Addr}(h:H' l=Option.none):H l=Option.none:=by
 cases q:H l with
 | none=>rfl
 | some o=>
   rw[e l o q]at h;cases h
theorem Same.seq{K:W.Frag}{H H':Hp}{a:Addr}{xs:List V}(e:Same H H')(h:SqL K H a xs):SqL K H' a xs:=by
 rcases h with (h | ⟨o,h⟩) | h
 · exact .inl (.inl (e _ _ h))
 · exact .inl (.inr ⟨o,e _ _ h⟩)
 exact .inr h
section
variable{κ:Type}[DecidableEq κ]
theorem nd_snoc:∀{l:List κ}{k:κ},l.Nodup -> ¬ k∈l->(l++[k]).Nodup
 | [],k,_,_=>by simp
 | a::r,k,h,hk=>by
   obtain⟨h1,h2⟩:=List.nodup_cons.mp h;show(a::(r++[k])).Nodup;refine List.nodup_cons.mpr ⟨fun m=>?_,nd_snoc h2 fun m=>hk (List.mem_cons.mpr (Or.inr m))⟩;rcases List.mem_append.mp m with q | q
   · exact h1 q
   exact hk (List.mem_cons.mpr (Or.inl (List.mem_singleton.mp q).symm))
end
end L2
namespace SW
open PySem PySem.Spec PyProof.Rows L2
theorem b_int:bootBuiltins "int"=some (.type "int"):=by decide +kernel
theorem b_bool:bootBuiltins "bool"=some (.type "bool"):=by decide +kernel
theorem b_isinstance:bootBuiltins "isinstance"=some (.builtin "isinstance"):=by decide +kernel
theorem b_len:bootBuiltins "len"=some (.builtin "len"):=by decide +kernel
structure Bx(p:Prop):Prop where
 out:p
structure Fn(P:Program)(w:World)(K:W.Frag)(mg:Str->Option Value)(base:Heap)(x:Str)(k:Nat)(ps:List Str)(sp:Sp):Prop where
 ex:∃(f:Addr) (fd:FuncData),FnOk P w K mg base CX0 k f fd ps sp/\mg x=some (.ref f)/\W.keepIn K (.ref f)=true/\Binds K fd ps []
structure Dfn(K:W.Frag)(mg:Str->Option Value)(x:Str)(st:Stmt)(ps:List Str):Prop where
 ex:∃(f:Addr) (fd:FuncData),Fun K x x st f fd/\mg x=some (.ref f)/\Binds K fd ps []
theorem Dfn.fn{P:Program}{w:World}{K:W.Frag}{mg:Str->Option Value}{base:Heap}{x:Str}{st:Stmt}{N ps:List Str}{k:Nat}{sp:Sp}(d:Dfn K mg x st ps)(S:FnScope N ps (defScope st))(len:∀ vs H Q E,sp vs H Q E->vs.length=ps.length)
 (hbody:∀(f:Addr) (cdv:Value) (A:Around) (outer:List Env) (s:Shared) (H:Hp) (vs:List V) (Q:VK) (E:XK),Room k (A.deeper (envOfC x (defScope st) s.heap.objs.size f cdv))->sp vs H Q E ->
  ∃ t,Bx (PSs (cxOf CX0 P w K mg base N x (defScope st) f cdv A outer s H E).nox (defBody st) t)/\t { nx:=fun _ H'=>Q .non H',rt:=Q } (start N vs) H):Fn P w K mg base x (k+1) ps sp:=by
 obtain⟨f,fd,F,hm,hb⟩:=d.ex;exact⟨f,fd,F.ok S len (fun cdv A outer s H vs Q E hr h=>let⟨t,h1,h2⟩:=hbody f cdv A outer s H vs Q E hr h;⟨t,h1.out,h2⟩),hm,F.kp,hb⟩
theorem fun_bx{P:Program}{w:World}{K:W.Frag}{mg:Str->Option Value}{base:Heap}{x qual:Str}{st:Stmt}{f:Addr}{fd:FuncData}{N ps:List Str}{k:Nat}{sp:Sp}(F:Fun K x qual st f fd)(S:FnScope N ps (defScope st))(len:∀ vs H Q E,sp vs H Q E->vs.length=ps.length)
 (hbody:∀(cdv:Value) (A:Around) (outer:List Env) (s:Shared) (H:Hp) (vs:List V) (Q:VK) (E:XK),Room k (A.deeper (envOfC qual (defScope st) s.heap.objs.size f cdv))->sp vs H Q E ->
  ∃ t,Bx (PSs (cxOf CX0 P w K mg base N qual (defScope st) f cdv A outer s H E).nox (defBody st) t)/\t { nx:=fun _ H'=>Q .non H',rt:=Q } (start N vs) H):FnOk P w K mg base CX0 (k+1) f fd ps sp:=
 F.ok S len (fun cdv A outer s H vs Q E hr h=>let⟨t,h1,h2⟩:=hbody cdv A outer s H vs Q E hr h;⟨t,h1.out,h2⟩)
noncomputable def plainE:Expr->Bool
 | .Starred _ _=>false
 | _=>true
theorem star_of{e:Expr}{es:List Expr}{env:Env}(h:plainE e=true):starEach (e::es) env=(false,eval e env)::starEach es env:=by
 cases e <;> first | rfl | exact absurd h Bool.false_ne_true
theorem star_any{pos:Pos}{env:Env}:∀{es:List Expr},es.all plainE=true->(backTo pos (starEach es env)).any (·.1)=false
 | [],_=>rfl
 | e::es,h=>by
   rw[List.all_cons,Bool.and_eq_true]at h;rw[star_of h.1];show(false || (backTo pos (starEach es env)).any (·.1))=false;rw[star_any h.2]
   rfl
theorem star_all{pos:Pos}{env:Env}:∀{es:List Expr},es.all plainE=true->(backTo pos (starEach es env)).all (fun x=>!x.1)=true
 | [],_=>rfl
 | e::es,h=>by
   rw[List.all_cons,Bool.and_eq_true]at h;rw[star_of h.1];show(true && (backTo pos (starEach es env)).all (fun x=>!x.1))=true;rw[star_all h.2]
   rfl
section
variable{X:Cx}{x:Str}{p pos:Pos}{e:Expr}{es:List Expr}{t:TA}{te:TE}{k:Nat}{ps:List Str}{sp:Sp}
theorem pac(ha:PE X e te)(hr:PA X es t)(h:plainE e=true:=by rfl):PA X (e::es) (tCons te t):=pa_cons ha hr (star_of h)
theorem pe_fn(F:Fn X.prog X.w X.K X.mg X.base x k ps sp)(hr:Room k X.A)(ha:PA X (e::es) t)(hg:Gl X x:=by rfl)(hdb:(x == ("__debug__":Str))=false:=by decide)(h1:plainE e=true:=by rfl)(h2:es.all plainE=true:=by rfl) :
 PE X (.Call (.Name x p) (e::es) [] pos) (tCall sp [] E0 t):=by
 obtain⟨f,fd,G,hm,kp,b⟩:=F.ex;exact pe_call G hr hg hm kp b .nil pass0 ha hdb (star_of h1) (star_any h2)
theorem pe_cB{id:String}{r:List V->Hp->VK->Prop}(hc:CallR X (.builtin id) r)(hm:X.mg x=none)(hv:bootBuiltins x=some (.builtin id))(ha:PA X (e::es) t)(hg:Gl X x:=by rfl)(hn:x ≠ "__name__":=by decide)(hdb:(x == ("__debug__":Str))=false:=by decide)
 (h1:plainE e=true:=by rfl) (h2:es.all plainE=true:=by rfl):PE X (.Call (.Name x p) (e::es) [] pos) (tCB r t):=pe_callB hc hg hm hv ha hn hdb (star_of h1) (star_any h2)
theorem pe_cT{T:String}{r:List V->Hp->VK->Prop}(hc:CallR X (.type T) r)(hm:X.mg x=none)(hv:bootBuiltins x=some (.type T))(ha:PA X (e::es) t)(hg:Gl X x:=by rfl)(hn:x ≠ "__name__":=by decide)(hdb:(x == ("__debug__":Str))=false:=by decide)
 (h1:plainE e=true:=by rfl) (h2:es.all plainE=true:=by rfl):PE X (.Call (.Name x p) (e::es) [] pos) (tCB r t):=pe_callTy hc hg hm hv ha hn hdb (star_of h1) (star_any h2)
theorem pe_m{T name id:_}{r:V->List V->Hp->VK->Prop}{o:Expr}{to:TE}{apos cpos:Pos}(pa:PlainAttrs T)(slot:Slot T name id)(hty:typeOf (.builtin id)=pure (.type "method_descriptor"))(hm:MtR X id r)(ho:PE X o to)(ha:PA X (e::es) t)
 (hbase:attributeBase o name X.env (eval o X.env)=eval o X.env:=by rfl) (hl:decide ((e::es).length+([]:List Keyword).length+(if([]:List Keyword).isEmpty then 0 else 1) < 30)=true:=by rfl)
 (hline:(apos.endLine == cpos.line)=true:=by rfl) (h1:plainE e=true:=by rfl) (h2:es.all plainE=true:=by rfl) :
 PE X (.Call (.Attribute o name apos) (e::es) [] cpos) (tBM X.K T r to t):=by
 refine pe_bm pa slot hty hm ho ha hbase ?_ hline (star_of h1) (star_any h2);have hA:(e::es).all plainE=true:=by rw[List.all_cons,h1,h2];rfl
 rw[star_all hA,hl]
 rfl
theorem pi_r1{tg a:Expr}{ta:TA}(hm:X.mg "range"=none)(ha:PA X [a] ta)(hg:Gl X "range":=by rfl)(h1:plainE a=true:=by rfl):PI X tg (.Call (.Name "range" p) [a] [] pos) (iRng1 ta):=
 pi_range1 hg hm ha (star_of h1)
theorem pe_gint{i:Int}(h:∃ t,X.mg x=some (.int i t))(hg:Gl X x:=by rfl)(hd:(x == ("__debug__":Str))=false:=by decide):PE X (.Name x pos) (tC (.int i)):=by
 obtain⟨t,h⟩:=h;exact pe_glob hg h ⟨t,rfl⟩ hd
theorem pe_ty{n:String}(hm:X.mg x=none)(hv:bootBuiltins x=some (.type n))(hg:Gl X x:=by rfl)(hn:x ≠ "__name__":=by decide)(hd:(x == ("__debug__":Str))=false:=by decide):PE X (.Name x pos) (tC (.ty n)):=
 pe_bltn hg hm hv (show Value.type n=Value.type n from rfl) hn hd
end
namespace B
section
variable{X:Cx}{x f:Str}{p pos:Pos}{e a b c o:Expr}{es:List Expr}{t:TA}{te ta tb tc to ti:TE}{k:Nat}{ps:List Str}{sp:Sp}{tg:Expr}
theorem int{i j pos}:Bx (PE X (.Constant (.int i) j pos) (tC (.int i))):=⟨pe_int⟩
theorem bl{b j pos}:Bx (PE X (.Constant (.bool b) j pos) (tC (.bl b))):=⟨pe_bl⟩
theorem non{j pos}:Bx (PE X (.Constant .none j pos) (tC .non)):=⟨pe_non⟩
theorem str{x j pos}:Bx (PE X (.Constant (.str x) j pos) (tC (.str x))):=⟨pe_str⟩
theorem v(i:Nat){x:Str}{pos:Pos}(hN:X.N[i]?=some x:=by rfl)(hv:Vis X.env.scope x:=by first | exact Or.inl rfl | exact Or.inr (Or.inl rfl) | exact Or.inr (Or.inr rfl))(hd:(x == ("__debug__":Str))=false:=by decide)
 (hcd:(x == ("__classdict__":Str))=false:=by decide):Bx (PE X (.Name x pos) (tVar i)):=⟨pe_var hN hv hd hcd⟩
theorem gint{i:Int}(h:∃ t,X.mg x=some (.int i t))(hg:Gl X x:=by rfl)(hd:(x == ("__debug__":Str))=false:=by decide):Bx (PE X (.Name x pos) (tC (.int i))):=⟨pe_gint h hg hd⟩
theorem ty{n:String}(hm:X.mg x=none)(hv:bootBuiltins x=some (.type n))(hg:Gl X x:=by rfl)(hn:x ≠ "__name__":=by decide)(hd:(x == ("__debug__":Str))=false:=by decide):Bx (PE X (.Name x pos) (tC (.ty n))):=⟨pe_ty hm hv hg hn hd⟩
theorem op{op:Operator}{r:R2}(ho:OpR X (binaryOp op) r)(ha:Bx (PE X a ta))(hb:Bx (PE X b tb)):Bx (PE X (.BinOp a op b pos) (tOp r ta tb)):=⟨pe_op ho ha.out hb.out⟩
theorem un{op:UnaryOp}{r:V->Hp->VK->Prop}(ho:UnR X (unaryOp op) r)(ha:Bx (PE X a ta)):Bx (PE X (.UnaryOp op a pos) (tUn r ta)):=⟨pe_un ho ha.out⟩
theorem not(ha:Bx (PE X a ta)):Bx (PE X (.UnaryOp .Not a pos) (tNotV ta)):=⟨pe_not ha.out⟩
theorem cmp{op:CmpOp}{r:R2}(ho:OpR X (compareOp op) r)(ha:Bx (PE X a ta))(hb:Bx (PE X b tb))(hm:behindInMarks op b=false:=by exact nomark _):Bx (PE X (.Compare a [op] [b] pos) (tOp r ta tb)):=⟨pe_cmpR ho ha.out hb.out hm⟩
theorem one{op}(h:Bx (PE X a ta)):Bx (PE X (.BoolOp op [a] pos) ta):=⟨pe_one h.out⟩
theorem and{rest:List Expr}(ha:Bx (PE X a ta))(hb:Bx (PE X (.BoolOp .And (b::rest) pos) tb)):Bx (PE X (.BoolOp .And (a::b::rest) pos) (tAndV ta tb)):=⟨pe_and ha.out hb.out⟩
theorem nil:Bx (PA X [] tNil):=⟨pa_nil⟩
theorem cons(ha:Bx (PE X e te))(hr:Bx (PA X es t))(h:plainE e=true:=by rfl):Bx (PA X (e::es) (tCons te t)):=⟨pac ha.out hr.out h⟩
theorem lst(h:Bx (PA X es t)):Bx (PE X (.List es pos) (tLst t)):=⟨pe_lst h.out⟩
theorem tup{x1}(h:Bx (PA X es t)):Bx (PE X (.Tuple es x1 pos) (tTup t)):=⟨pe_tup h.out⟩
theorem ix{r:R2}(hr:IxR X r)(ha:Bx (PE X a ta))(hb:Bx (PE X b tb))(hs:PlainIx b:=by exact fun _ _=>rfl):Bx (PE X (.Subscript a b pos) (tOp r ta tb)):=⟨pe_ix hr ha.out hb.out hs⟩
theorem nopart:Bx (PO X none tNoPart):=⟨po_none⟩
theorem part(h:Bx (PE X e te)):Bx (PO X (some e) (tPart te)):=⟨po_some h.out⟩
theorem slice{lo hi:Option Expr}{tl th:TO}{p2:Pos}{r:V->Option Int->Option Int->Hp->VK->Prop}(hr:SlR X r)(he:Bx (PE X e te))(hl:Bx (PO X lo tl))(hu:Bx (PO X hi th)):Bx (PE X (.Subscript e (.Slice lo hi none p2) pos) (tSl r te tl th)):=⟨pe_slice hr he.out hl.out hu.out⟩
theorem fn(F:Fn X.prog X.w X.K X.mg X.base x k ps sp)(hr:Room k X.A)(ha:Bx (PA X (e::es) t))(hg:Gl X x:=by rfl)(hdb:(x == ("__debug__":Str))=false:=by decide)(h1:plainE e=true:=by rfl)(h2:es.all plainE=true:=by rfl) :
 Bx (PE X (.Call (.Name x p) (e::es) [] pos) (tCall sp [] E0 t)):=⟨pe_fn F hr ha.out hg hdb h1 h2⟩
theorem cB{id:String}{r:List V->Hp->VK->Prop}(hc:CallR X (.builtin id) r)(hm:X.mg x=none)(hv:bootBuiltins x=some (.builtin id))(ha:Bx (PA X (e::es) t))(hg:Gl X x:=by rfl)(hn:x ≠ "__name__":=by decide)(hdb:(x == ("__debug__":Str))=false:=by decide)
 (h1:plainE e=true:=by rfl) (h2:es.all plainE=true:=by rfl):Bx (PE X (.Call (.Name x p) (e::es) [] pos) (tCB r t)):=⟨pe_cB hc hm hv ha.out hg hn hdb h1 h2⟩
theorem cT{T:String}{r:List V->Hp->VK->Prop}(hc:CallR X (.type T) r)(hm:X.mg x=none)(hv:bootBuiltins x=some (.type T))(ha:Bx (PA X (e::es) t))(hg:Gl X x:=by rfl)(hn:x ≠ "__name__":=by decide)(hdb:(x == ("__debug__":Str))=false:=by decide)
 (h1:plainE e=true:=by rfl) (h2:es.all plainE=true:=by rfl):Bx (PE X (.Call (.Name x p) (e::es) [] pos) (tCB r t)):=⟨pe_cT hc hm hv ha.out hg hn hdb h1 h2⟩
theorem m{T name id:_}{r:V->List V->Hp->VK->Prop}{apos cpos:Pos}(pa:PlainAttrs T)(slot:Slot T name id)(hty:typeOf (.builtin id)=pure (.type "method_descriptor"))(hm:MtR X id r)(ho:Bx (PE X o to))(ha:Bx (PA X (e::es) t))
 (hbase:attributeBase o name X.env (eval o X.env)=eval o X.env:=by rfl) (hl:decide ((e::es).length+([]:List Keyword).length+(if([]:List Keyword).isEmpty then 0 else 1) < 30)=true:=by rfl)
 (hline:(apos.endLine == cpos.line)=true:=by rfl) (h1:plainE e=true:=by rfl) (h2:es.all plainE=true:=by rfl) :
 Bx (PE X (.Call (.Attribute o name apos) (e::es) [] cpos) (tBM X.K T r to t)):=⟨pe_m pa slot hty hm ho.out ha.out hbase hl hline h1 h2⟩
theorem tcmp{op:CmpOp}{r:R2}(ho:OpR X (compareOp op) r)(ha:Bx (PE X a ta))(hb:Bx (PE X b tb))(hm:behindInMarks op b=false:=by exact nomark _):Bx (PT X (.Compare a [op] [b] pos) (tTest (tOp r ta tb))):=⟨pt_cmpR ho ha.out hb.out hm⟩
theorem tchain{op op':CmpOp}{r r':R2}(ho:OpR X (compareOp op) r)(ho':OpR X (compareOp op') r')(ha:Bx (PE X a ta))(hb:Bx (PE X b tb))(hc:Bx (PE X c tc))(hm:lastMarks [op,op'] [b,c]=false:=by with_unfolding_all rfl) :
 Bx (PT X (.Compare a [op,op'] [b,c] pos) (tTest (tChain r r' ta tb tc))):=⟨pt_chain ho ho' ha.out hb.out hc.out hm⟩
theorem tval(h:Bx (PE X e te))(he:∀ whole,isTrue e X.env whole=(do let v ← whole;standAt e.pos;holding [v] (truthy v)):=by intro _;rfl):Bx (PT X e (tB te)):=⟨pt_val h.out he⟩
theorem tnot{tA:TT}(ha:Bx (PT X a tA)):Bx (PT X (.UnaryOp .Not a pos) (tNot tA)):=⟨pt_not ha.out⟩
theorem wor1{tA:TT}(ha:Bx (PT X a tA)):Bx (PW X (.BoolOp .Or [a] pos) tA):=⟨pw_or1 ha.out⟩
theorem wor{tA tB':TT}{rest:List Expr}(ha:Bx (PT X a tA))(hb:Bx (PW X (.BoolOp .Or (b::rest) pos) tB')):Bx (PW X (.BoolOp .Or (a::b::rest) pos) (tOr tA tB')):=⟨pw_or ha.out hb.out⟩
theorem tw{tA:TT}(h:Bx (PW X e tA)):Bx (PT X e tA):=⟨h.out.pt⟩
theorem gname{i:Nat}(hN:X.N.Nodup)(hi:X.N[i]?=some x:=by rfl)(hx:Loc X.env.scope x:=by first | exact Or.inl rfl | exact Or.inr rfl)(hf:X.fn x=true∨X.env.scope.names.lookup x=some .local:=by first | exact .inl rfl | exact .inr rfl):Bx (PG X (.Name x pos) (gName i)):=⟨pg_name hN hi hx hf⟩
theorem gsub{s:TSet}{i:Expr}(ho:Bx (PE X o to))(hi:Bx (PE X i ti))(hs:PSet X s)
 (ha:∀ v,assign (.Subscript o i pos) X.env v=(do
  let ov ← holding [v] (eval o X.env)
  let iv ← holding [v,ov] (eval i X.env)
  standAt pos
  holding [v,ov,iv] (setItem ov iv v)
  release [v,ov,iv] []):=by intro _;rfl):Bx (PG X (.Subscript o i pos) (gSub to ti s)):=⟨pg_sub ho.out hi.out hs ha⟩
theorem asg{g:TG}(he:Bx (PE X e te))(hg:Bx (PG X tg g))(hs:swapsWithSole [tg] e pos.line X.env=pure false:=by rfl)(hw:swappedStores [tg] e X.env=pure none:=by rfl)
 (h1:(assignEach [tg] X.env).map (·.2)=[assign tg X.env]:=by rfl):Bx (PS X (.Assign [tg] e pos) (tAsg te g)):=⟨ps_asg he.out hg.out hs hw h1⟩
theorem set(i:Nat){pos':Pos}(hN:X.N.Nodup)(he:Bx (PE X e te))(hi:X.N[i]?=some x:=by rfl)(hx:Loc X.env.scope x:=by first | exact Or.inl rfl | exact Or.inr rfl)(hs:swapsWith e (some (.Name x pos')) pos.line X.env=pure false:=by rfl)
 (hf:X.fn x=true∨X.env.scope.names.lookup x=some .local:=by first | exact .inl rfl | exact .inr rfl):Bx (PS X (.Assign [.Name x pos'] e pos) (tAsg te (gName i))):=⟨ps_set hN hi hx he.out hs hf⟩
theorem expr(he:Bx (PE X e te))(hs:swapsWith e none pos.line X.env=pure false:=by rfl):Bx (PS X (.Expr e pos) (tDrop te)):=⟨ps_expr he.out hs⟩
theorem ret(he:Bx (PE X e te)):Bx (PS X (.Return (some e) pos) (tRet te)):=⟨ps_ret he.out⟩
theorem ifs{tcc:TT}{l r:List Stmt}{u w:TS}(hc:Bx (PT X c tcc))(ha:Bx (PSs X l u))(hb:Bx (PSs X r w)):Bx (PS X (.If c l r pos) (tIfS tcc u w)):=⟨ps_if hc.out ha.out hb.out⟩
theorem ilist{l:Expr}{tl:TE}(hl:Bx (PE X l tl)):Bx (PI X tg l (iList X.K tl)):=⟨pi_list hl.out⟩
theorem irange{t:TA}(hm:X.mg "range"=none)(ha:Bx (PA X [a] t))(hg:Gl X "range":=by rfl)(h1:plainE a=true:=by rfl):Bx (PI X tg (.Call (.Name "range" p) [a] [] pos) (iRng1 t)):=⟨pi_r1 hm ha.out hg h1⟩
theorem fors{iter:Expr}{l:List Stmt}{wi:TI}{g:TG}{u:TS}(hi:Bx (PI X tg iter wi))(hg:Bx (PG X tg g))(hb:Bx (PSs X l u))(hp:PassesOwn (model X.prog X.w) X.A X.env X.xe:=by exact PassesOwn.never)(hc:X.calm=true:=by rfl)
 (hs:∀ x,foldedSetIterable iter X.env x=pure x:=by intro _;rfl):Bx (PS X (.For tg iter l [] pos) (tFor wi g u)):=⟨ps_for hp hc hi.out hg.out hb.out hs⟩
theorem snil:Bx (PSs X [] tNext):=⟨pss_nil⟩
theorem scons{st:Stmt}{rest:List Stmt}{u w:TS}(h1:Bx (PS X st u))(h2:Bx (PSs X rest w)):Bx (PSs X (st::rest) (tSeq u w)):=⟨pss_cons h1.out h2.out⟩
theorem sone{st:Stmt}{u:TS}(h1:Bx (PS X st u)):Bx (PSs X [st] u):=⟨pss_one h1.out⟩
end
end B
noncomputable def CDivL(_ j:Int):Prop:=0 < j/\j < 18446744073709551616
theorem op_fdivL{X:Cx}:OpR X (binaryOp .FloorDiv) (rI CDivL fun i j=>.int (i / j)):=opI fun i j _ _ _ _ _ hc q=>by
 have h1:(0:Int) < j:=hc.1;have h2:j < 18446744073709551616:=hc.2;have h3:j.natAbs.log2 < 64:=(Nat.log2_lt (by omega)).mpr (by omega)
 exact floordiv_int (by omega) (by rw[Int.fdiv_eq_ediv_of_nonneg i (by omega)];exact q) (.inl (PyProof.noPylong_of_log2 (by omega)))
section
variable{D:Ends}{σ:L2.St}{H:Hp}{Q:VK}{v:V}{K:W.Frag}
theorem wAsg{te:TE}{g:TG}(h:te σ H fun x H1=>g x σ H1 D.nx):tAsg te g D σ H:=h
theorem wName{i:Nat}{Q:L2.St->Hp->Prop}(h:Q (σ.set i (some v)) H):gName i v σ H Q:=h
theorem wSub{to ti:TE}{t:TSet}{Q:L2.St->Hp->Prop}(h:to σ H fun o H1=>ti σ H1 fun i H2=>t o i v H2 fun H3=>Q σ H3):gSub to ti t v σ H Q:=h
theorem wSetL{p:Addr}{xs:List V}{i:Int}{j:Nat}{Q:Hp->Prop}(e:H p=some (.lst xs))(hj:ixN xs.length i=some j)(h:Q (upd H p (.lst (xs.set j v)))):rSetL (.ref p) (.int i) v H Q:=⟨p,xs,i,j,rfl,rfl,e,hj,h⟩
theorem wDrop{te:TE}(h:te σ H fun _ H1=>D.nx σ H1):tDrop te D σ H:=h
theorem wRet{te:TE}(h:te σ H D.rt):tRet te D σ H:=h
theorem wNext(h:D.nx σ H):tNext D σ H:=h
theorem wIfS{c:TT}{t u:TS}(h:c σ H fun b H1=>if b=true then t D σ H1 else u D σ H1):tIfS c t u D σ H:=h
theorem wVar{i:Nat}(e:σ[i]?=some (some v))(h:Q v H):tVar i σ H Q:=⟨v,e,h⟩
theorem wC(h:Q v H):tC v σ H Q:=h
theorem wOp{r:R2}{ta tb:TE}(h:ta σ H fun x H1=>tb σ H1 fun y H2=>r x y H2 Q):tOp r ta tb σ H Q:=h
theorem wUn{r:V->Hp->VK->Prop}{ta:TE}(h:ta σ H fun x H1=>r x H1 Q):tUn r ta σ H Q:=h
theorem wU{g:Int->V}{i:Int}(h:Q (g i) H):rU g (.int i) H Q:=⟨i,rfl,h⟩
theorem wI0{g:Int->Int->V}{i j:Int}(h:Q (g i j) H):rI0 g (.int i) (.int j) H Q:=⟨i,j,rfl,rfl,h⟩
theorem wMod{g:Int->Int->V}{i j:Int}(c:0 < j)(h:Q (g i j) H):rI (fun _ j=>0 < j) g (.int i) (.int j) H Q:=⟨i,j,rfl,rfl,c,h⟩
theorem wDivL{g:Int->Int->V}{i j:Int}(c:0 < j/\j < 18446744073709551616)(h:Q (g i j) H):rI CDivL g (.int i) (.int j) H Q:=⟨i,j,rfl,rfl,c,h⟩
theorem wMul{g:Int->Int->V}{i j:Int}(c:(-18446744073709551616 < i/\i < 18446744073709551616)∨(-18446744073709551616 < j/\j < 18446744073709551616))(h:Q (g i j) H):rI CMul g (.int i) (.int j) H Q:=⟨i,j,rfl,rfl,c,h⟩
theorem wPow{g:Int->Int->V}{i j:Int}(c:0<=j/\j<=1000000/\i.natAbs < 2 ^ 64)(h:Q (g i j) H):rI CPow g (.int i) (.int j) H Q:=⟨i,j,rfl,rfl,c,h⟩
theorem wEqI{i j:Int}(h:Q (.bl (decide (V.int i=V.int j))) H):rEq (.int i) (.int j) H Q:=⟨rfl,h⟩
theorem wNeI{i j:Int}(h:Q (.bl (!decide (V.int i=V.int j))) H):rNe (.int i) (.int j) H Q:=⟨rfl,h⟩
theorem wTest{te:TE}{Q:Bool->Hp->Prop}(h:te σ H fun x H'=>∃ k,x=.bl k/\Q k H'):tTest te σ H Q:=h
theorem wB{te:TE}{Q:Bool->Hp->Prop}(h:te σ H fun x H'=>∃ k,x=.bl k/\Q k H'):tB te σ H Q:=h
theorem wBl{b:Bool}{Q:Bool->Prop}(h:Q b):∃ k,V.bl b=.bl k/\Q k:=⟨b,rfl,h⟩
theorem wNot{t:TT}{Q:Bool->Hp->Prop}(h:t σ H fun c H1=>Q (!c) H1):tNot t σ H Q:=h
theorem wNotV{ta:TE}(h:ta σ H fun x H1=>∃ c,x=.bl c/\Q (.bl (!c)) H1):tNotV ta σ H Q:=h
theorem wAndV{ta tb:TE}(h:ta σ H fun x H1=>∃ c,x=.bl c/\if c=true then tb σ H1 Q else Q (.bl false) H1):tAndV ta tb σ H Q:=h
theorem wIxL{p:Addr}{xs:List V}{i:Int}(e:H p=some (.lst xs))(a:atI xs i=some v)(h:Q v H):rIxL K (.ref p) (.int i) H Q:=⟨p,xs,i,v,rfl,rfl,SqL.of e,a,h⟩
theorem wIxT{p:Addr}{xs:List V}{i:Int}(e:H p=some (.tup xs))(a:atI xs i=some v)(h:Q v H):rIxT K (.ref p) (.int i) H Q:=⟨p,xs,i,v,rfl,rfl,SqT.of e,a,h⟩
theorem wNil{Q:List V->Hp->Prop}(h:Q [] H):tNil σ H Q:=h
theorem wCons{ta:TE}{tr:TA}{Q:List V->Hp->Prop}(h:ta σ H fun x H1=>tr σ H1 fun xs H2=>Q (x::xs) H2):tCons ta tr σ H Q:=h
theorem wLst{t:TA}(h:t σ H fun xs H1=>xs.length<=sizeLine /\ ∀ p,H1 p=none->Q (.ref p) (upd H1 p (.lst xs))):tLst t σ H Q:=h
theorem wTup{t:TA}(h:t σ H fun xs H1=>xs.length<=sizeLine /\ ∀ p,H1 p=none->Q (.ref p) (upd H1 p (.tup xs))):tTup t σ H Q:=h
theorem wBM{T:String}{r:V->List V->Hp->VK->Prop}{to:TE}{t:TA}(h:to σ H fun x H1=>tyV K T x H1/\t σ H1 fun xs H2=>r x xs H2 Q):tBM K T r to t σ H Q:=h
theorem wCall{sp:Sp}{E:XK}{t:TA}(h:t σ H fun vs H1=>sp (vs++[]) H1 Q E):tCall sp [] E t σ H Q:=h
theorem wCB{r:List V->Hp->VK->Prop}{t:TA}(h:t σ H fun vs H1=>r vs H1 Q):tCB r t σ H Q:=h
end
end SW
namespace SW
open PySem PySem.NumText
set_option maxHeartbeats 4000000 in
section
variable{prog:Program}{w:World}{A:Around}{E:Value->Shared->Prop}{s:Shared}{Q:Value->Shared->Prop}{x:PySem.Str}{t u:Tok}
end
end SW
namespace SW
open PySem PySem.Spec PyProof.Rows L2
noncomputable def Row(H:Hp)(p:Addr):Prop:=∃ a b c:Int,H p=some (.lst [.int a,.int b,.int c])/\0<=b/\b < 536870909
noncomputable def KeepBut(p:Addr)(H H':Hp):Prop:=∀ b o,b≠p->H b=some o->H' b=some o
theorem KeepBut.trans{p:Addr}{H H1 H2:Hp}(a:KeepBut p H H1)(b:KeepBut p H1 H2):KeepBut p H H2:=fun c o n h=>b c o n (a c o n h)
theorem KeepBut.new{p q:Addr}{o:HO}{H:Hp}(h:H q=none):KeepBut p H (upd H q o):=fun b u _ e=>by
 rw[upd_ne (ne_of_none e h)];exact e
theorem KeepBut.at{p:Addr}{o:HO}{H:Hp}:KeepBut p H (upd H p o):=fun b u n e=>by
 rw[upd_ne n];exact e
theorem Same.new{q:Addr}{o:HO}{H:Hp}(h:H q=none):Same H (upd H q o):=fun b u e=>by
 rw[upd_ne (ne_of_none e h)];exact e
theorem Same.but{p:Addr}{H H':Hp}(h:Same H H'):KeepBut p H H':=fun b o _ e=>h b o e
theorem Row.same{H H':Hp}{p:Addr}(r:Row H p)(s:Same H H'):Row H' p:=by
 obtain⟨a,b,c,h,h0,h1⟩:=r;exact⟨a,b,c,s _ _ h,h0,h1⟩
theorem Row.new{H:Hp}{p q:Addr}{o:HO}(r:Row H p)(h:H q=none):Row (upd H q o) p:=r.same (Same.new h)
theorem Row.ne{H:Hp}{p q:Addr}{xs:List V}(r:Row H p)(h:H q=some (.tup xs)):q≠p:=by
 obtain⟨a,b,c,e,_⟩:=r;exact ne_of h e (by intro z;cases z)
theorem Row.neL{H:Hp}{p q:Addr}{xs:List V}(r:Row H p)(h:H q=some (.lst xs))(hl:xs.length≠3):q≠p:=by
 obtain⟨a,b,c,e,_⟩:=r;refine ne_of h e ?_;intro z;injection z with z;rw[z]at hl;exact hl rfl
theorem Row.ne0{H:Hp}{p q:Addr}(r:Row H p)(h:H q=none):p≠q:=by
 obtain⟨a,b,c,e,_⟩:=r;exact ne_of_none e h
noncomputable def spStream:Sp:=fun vs H Q _=>∃ c:Int,vs=[.int c] /\ ∀ p o,H p=none->Row (upd H p o) p->Q (.ref p) (upd H p o)
noncomputable def spTake:Sp:=fun vs H Q _=>∃(p:Addr) (m:Int),vs=[.ref p,.int m]/\0 < m/\m < 18446744073709551616/\Row H p /\ ∀ r o,0<=r->r < m->Row (upd H p o) p->Q (.int r) (upd H p o)
theorem wStream{c:Int}{H:Hp}{Q:VK}{E:XK}(k:∀ p o,H p=none->Row (upd H p o) p->Q (.ref p) (upd H p o)):spStream ([.int c]++[]) H Q E:=⟨c,rfl,k⟩
theorem wTake{p:Addr}{m:Int}{H:Hp}{Q:VK}{E:XK}(hp:Row H p)(h0:0 < m)(h1:m < 18446744073709551616)(k:∀ r H',0<=r->r < m->Row H' p->KeepBut p H H'->Q (.int r) H'):spTake ([.ref p,.int m]++[]) H Q E:=
 ⟨p,m,rfl,h0,h1,hp,fun r o a b c=>k r _ a b c KeepBut.at⟩
noncomputable def spKey:Sp:=fun vs H Q _=>∃ p:Addr,vs=[.ref p]/\Row H p /\ ∀ k H',0<=k->k<=1000000000->Row H' p->KeepBut p H H'->Q (.int k) H'
theorem wKey{p:Addr}{H:Hp}{Q:VK}{E:XK}(hp:Row H p)(k:∀ k H',0<=k->k<=1000000000->Row H' p->KeepBut p H H'->Q (.int k) H'):spKey ([.ref p]++[]) H Q E:=⟨p,rfl,hp,k⟩
noncomputable def Mix(H:Hp)(t:Addr):Prop:=∃ f m:Int,H t=some (.tup [.int f,.int m])/\0<=f/\f<=65535/\0<=m/\m<=65535
theorem Mix.keep{H H':Hp}{p t:Addr}(h:Mix H t)(r:Row H p)(k:KeepBut p H H'):Mix H' t:=by
 obtain⟨f,m,e,b⟩:=h;exact⟨f,m,k _ _ (r.ne e) e,b⟩
theorem Mix.same{H H':Hp}{t:Addr}(h:Mix H t)(k:Same H H'):Mix H' t:=by
 obtain⟨f,m,e,b⟩:=h;exact⟨f,m,k _ _ e,b⟩
noncomputable def spMixer:Sp:=fun vs H Q _=>∃ p:Addr,vs=[.ref p]/\Row H p /\ ∀ t H',Mix H' t->Row H' p->KeepBut p H H'->Q (.ref t) H'
theorem wMixer{p:Addr}{H:Hp}{Q:VK}{E:XK}(hp:Row H p)(k:∀ t H',Mix H' t->Row H' p->KeepBut p H H'->Q (.ref t) H'):spMixer ([.ref p]++[]) H Q E:=⟨p,rfl,hp,k⟩
theorem atI_in{α:Type}{xs:List α}{i:Int}(h0:0<=i)(h1:i < xs.length):∃ v,atI xs i=some v/\v∈xs:=by
 obtain⟨j,rfl⟩:=Int.eq_ofNat_of_zero_le h0;have hj:j < xs.length:=by omega
 exact⟨xs[j],atI_nat (by simp[hj]),List.getElem_mem hj⟩
theorem KeepBut.upd{p q:Addr}{o:HO}{H H':Hp}(k:KeepBut p H H')(h:H q=none):KeepBut p H (upd H' q o):=fun b u n e=>by
 rw[upd_ne (ne_of_none e h)];exact k b u n e
theorem Mix.upd{H:Hp}{q t:Addr}{o:HO}{xs:List V}(m:Mix H t)(h:H q=some (.lst xs)):Mix (L2.upd H q o) t:=by
 obtain⟨f,z,e,b⟩:=m;refine⟨f,z,?_,b⟩;rw[upd_ne (ne_of e h (by intro z;cases z))];exact e
theorem Row.upd{H:Hp}{p q:Addr}{o:HO}(r:Row H p)(h:p≠q):Row (L2.upd H q o) p:=by
 obtain⟨a,b,c,e,z⟩:=r;exact⟨a,b,c,by rw[upd_ne h];exact e,z⟩
noncomputable def Mixs(H:Hp)(xs:List V):Prop:=∀ v∈xs,∃ t,v=V.ref t/\Mix H t
theorem Mixs.nil{H:Hp}:Mixs H []:=fun _ h=>nomatch h
theorem Mixs.more{H H':Hp}{xs:List V}(h:Mixs H xs)(t:Addr)(m:Mix H' t)(k:∀ t,Mix H t->Mix H' t):Mixs H' (xs++[V.ref t]):=fun v hv=>by
 rcases List.mem_append.mp hv with q | q
 · obtain⟨u,e,z⟩:=h v q
   exact⟨u,e,k u z⟩
 exact⟨t,List.mem_singleton.mp q,m⟩
theorem Mixs.map{H H':Hp}{xs:List V}(h:Mixs H xs)(k:∀ t,Mix H t->Mix H' t):Mixs H' xs:=fun v hv=>by
 obtain⟨u,e,z⟩:=h v hv;exact⟨u,e,k u z⟩
theorem Mixs.new{H:Hp}{xs:List V}(h:Mixs H xs)(t:Addr)(f m:Int)(ht:H t=none)(b:0<=f/\f<=65535/\0<=m/\m<=65535):Mixs (L2.upd H t (.tup [.int f,.int m])) (xs++[V.ref t]):=
 h.more t ⟨f,m,upd_same,b⟩ fun _ z=>z.same (Same.new ht)
section
variable{X:Cx}
theorem call_isi:CallR X (.builtin "isinstance") (fun xs H Q=>∃ x T t b,xs=[x,.ty T]/\TyOf X.K H x t/\W.kitOne X.K t (.type T)=some b/\Q (.bl b) H):=by
 intro pins s σ H xs us Q I r h;obtain⟨x,T,t,b,rfl,ty,e,q⟩:=h;obtain⟨u,v,rfl,ru,rv⟩:=vals2 r;cases (show v=Value.type T from rv);exact isinst_ok I ru ty e fun tk=>⟨.bl b,H,I.tok tk,rfl,q⟩
end
theorem isi_int_int{K:W.Frag}:W.kitOne K (.type "int") (.type "int")=some true:=rfl
theorem isi_int_bool{K:W.Frag}:W.kitOne K (.type "int") (.type "bool")=some false:=by
 show W.kitOne [] (.type "int") (.type "bool")=some false
 decide +kernel
section
variable{D:Ends}{σ:L2.St}{H:Hp}{Q:VK}{v:V}{K:W.Frag}
theorem wFor{wi:TI}{g:TG}{tb:TS}(h:wi σ H fun J H1=>∃ W:Nat->Nat->L2.St->Hp->Prop,(∃ m,W 0 m σ H1) /\ ∀ i m σ H,W i m σ H ->
 (J.stop i H/\D.nx σ H)∨(J.go i H /\ ∃ N:L2.St->Hp->Prop,(∀ σ' H',N σ' H' -> ∃ m',m' < m/\W (i+1) m' σ' H') /\ ∀ x H',J.yld i H x H'->g x σ H' fun σ2 H2=>tb { D with nx:=N,ct:=N,bk:=D.nx } σ2 H2)):tFor wi g tb D σ H:=h
theorem wIList{tl:TE}{R:It->Hp->Prop}(h:tl σ H fun x H1=>∃ a,x=.ref a/\(∃ xs,SqL K H1 a xs)/\R (Itl K a) H1):iList K tl σ H R:=h
theorem wRng1{ta:TA}{R:It->Hp->Prop}(h:ta σ H fun vs H1=>∃ j:Int,vs=[.int j] /\ -(2 ^ 62)<=j/\j < 2 ^ 62/\R (Itr 0 j.toNat) H1):iRng1 ta σ H R:=h
theorem cut_ints(ns:List Int)(lo hi:Option Int):∃ cs:List Int,cutV (ns.map V.int) lo hi=cs.map V.int/\cs.length<=ns.length:=by
 unfold cutV;rw[← List.map_drop,← List.map_take];exact⟨_,rfl,by rw[List.length_take,List.length_drop];omega⟩
end
theorem iteY{c A B:Prop}[Decidable c](hc:c)(h:A):if decide c=true then A else B:=by
 rw[decide_eq_true hc];exact iteT h
theorem getInt{cs:List Int}{i:Nat}{y:V}(h:(cs.map V.int)[i]?=some y):∃ c,y=V.int c:=by
 rw[List.getElem?_map]at h;cases e:cs[i]? with
 | none=>rw[e]at h;cases h
 | some z=>rw[e]at h;exact⟨z,(Option.some.inj h).symm⟩
noncomputable def spLaw(K:W.Frag):Sp:=fun vs H Q _=>∃(a:Addr) (ns:List Int),vs=[.ref a]/\SqL K H a (ns.map V.int)/\ns.length<=63 /\ ∀ H',Q (.bl true) H'
section
variable{H:Hp}{Q:VK}
theorem wInt1{k:Bool}{P:Int->Prop}(h:P (if k=true then 1 else 0)):(∃ i,[V.bl k]=[V.int i]/\P i) ∨ ∃ k',[V.bl k]=[V.bl k']/\P (if k'=true then 1 else 0):=.inr ⟨k,rfl,h⟩
end
section
variable{D:Ends}{σ:L2.St}{H:Hp}{Q:VK}
theorem wOr{t u:TT}{Q:Bool->Hp->Prop}(h:t σ H fun c H1=>if c=true then Q true H1 else u σ H1 Q):tOr t u σ H Q:=h
theorem wChain{r r':R2}{ta tb tc:TE}(h:ta σ H fun x H1=>tb σ H1 fun y H2=>r x y H2 fun z H3=>∃ k,z=.bl k/\(if k=true then tc σ H3 fun w' H4=>r' y w' H4 Q else Q (.bl false) H3)):tChain r r' ta tb tc σ H Q:=h
end
theorem iteNo{c A B:Prop}[Decidable c](hc:¬ c)(h:B):if decide c=true then A else B:=by
 rw[decide_eq_false hc];exact iteF h
noncomputable def spMark:Sp:=fun vs H Q _=>∃(k:Int) (t:Addr) (f m:Int),vs=[.int k,.ref t]/\H t=some (.tup [.int f,.int m])/\(0<=f/\f<=65535)/\Q (.int ((k*f+m) % 65536)) H
noncomputable def spPlace:Sp:=fun vs H Q _=>∃ m s:Int,vs=[.int m,.int s]/\0 < s/\Q (.int (m % s)) H
theorem wMark{k:Int}{t:Addr}{f m:Int}{H:Hp}{Q:VK}{E:XK}(h:H t=some (.tup [.int f,.int m]))(b:0<=f/\f<=65535)(q:Q (.int ((k*f+m) % 65536)) H):spMark ([.int k,.ref t]++[]) H Q E:=⟨k,t,f,m,rfl,h,b,q⟩
theorem wPlace{m s:Int}{H:Hp}{Q:VK}{E:XK}(h:0 < s)(q:Q (.int (m % s)) H):spPlace ([.int m,.int s]++[]) H Q E:=⟨m,s,rfl,h,q⟩
noncomputable def compCx(X:Cx)(scope:Scope)(cl:List (Str×Addr))(N':List Str)(s:Shared)(H:Hp)(fp:List Addr)(pins:List (Addr×Obj)):Cx:=
 { X with N:=N',s₀:=s,H₀:=H,env:=compEnvC scope cl s.heap.objs.size X.env,outer:=X.stack,stack:=X.stack,ex:=fp,fn:=fun _=>false,pn:=X.pn++pins,xe:=fun _ _=>False }
structure CompScope(X:Cx)(scope:Scope)(cl:List (Str×Addr))(x:Str)(js:List Nat)(N':List Str):Prop where
 clos:closureFor scope X.env=pure cl
 kind:scope.kind=.function
 nocell:∀ y∈scope.names,y.2 ≠ .cell
 names:∀ y∈scope.names,y.2=.local->scope.names.lookup y.1=some .local
 own:scope.names.lookup x=some .local
 sub:∀ p∈cl,X.env.cells.lookup p.1=some p.2
 has:∀ y,((relabel scope X.env).names.lookup y=some .cell∨(relabel scope X.env).names.lookup y=some .free) -> ∃ c,cl.lookup y=some c
 nm:N'=x::js.map fun j=>X.N.getD j Str.empty
 see:∀(i j:Nat),js[i]?=some j -> ∃ y,X.N[j]?=some y/\(X.env.kindOf y=some .cell∨X.env.kindOf y=some .free)/\((relabel scope X.env).names.lookup y=some .cell∨(relabel scope X.env).names.lookup y=some .free)
noncomputable def seen(σ:L2.St)(js:List Nat):L2.St:=none::js.map fun j=>σ.getD j none
section
variable{X:Cx}{scope:Scope}{cl:List (Str×Addr)}{x:Str}{js:List Nat}{N':List Str}{pins:List (Addr×Obj)}{σ:L2.St}{H:Hp}{s:Shared}{fp:List Addr}
theorem CompScope.sub'(S:CompScope X scope cl x js N'){y:Str}{c:Addr}(h:cl.lookup y=some c):X.env.cells.lookup y=some c:=S.sub (y,c) (PySem.mem_of_lookup h)
theorem comp_ok(S:CompScope X scope cl x js N')(I:Inv X pins σ H s)(hf:∀ b∈fp,FpOk X pins H b)(ho:∀ b∈fp,b < s.heap.objs.size):(compCx X scope cl N' s H fp pins).Ok where
 mod:=I.ok.mod
 kind:=S.kind
 glob:=I.ok.glob
 blt:=I.ok.blt
 above:=Nat.le_refl _
 inj:=fun y z c h1 h2=>I.ok.inj y z c (S.sub' h1) (S.sub' h2)
 has:=fun y h=>S.has y h
 cab:=fun y c h=>absurd h Bool.false_ne_true
 hd:=I.ok.hd
 frames:=I.ok.frames
 stk:=.inl rfl
 exf:=fun b hb=>⟨Nat.ne_of_lt (ho b hb),fun y c h=>(hf b hb).2.2.2.2.1 y c (S.sub' h)⟩
 bs:=I.bs
 bsz:=Nat.le_trans I.ok.bsz I.sz
 noex:=fun b o e hb=>by
  rcases(hf b hb).2.2.2.1 with z | z
  · exact I.ok.noex b o e z
  exact absurd (Nat.lt_of_lt_of_le (Heap.lt_size (I.ok.bs b o e).1) z) (Nat.lt_irrefl _)
 exfs:=fun b hb z=>by
  rcases List.mem_cons.mp (I.stkSub b z)with e | e
  · exact(hf b hb).2.1 e
  exact(hf b hb).2.2.1 e
 funs:=I.stack
 frf:=I.stkFree
theorem comp_inv(S:CompScope X scope cl x js N')(I:Inv X pins σ H s)(hf:∀ b∈fp,FpOk X pins H b)(ho:∀ b∈fp,b < s.heap.objs.size){s4:Shared}{m:Str->Option Value}(hos:s4.os=s.os)(hg:s4.gens=s.gens)
 (hn:s4.heap.Ns s.heap.objs.size m) (hk:∀ b o,s.heap.get? b=some o->s4.heap.get? b=some o):Inv (compCx X scope cl N' s H fp pins) [] (seen σ js) H s4 where
 ok:=comp_ok S I hf ho
 os:=hos
 bare:=by rw[hg];exact I.bare
 base:=Un.kept hk
 loc:=by
  obtain⟨mX,_,hl⟩:=I.loc;refine⟨m,hn,fun i y v h1 h2 h3=>?_⟩;cases i with
  | zero=>
    unfold seen at h2;simp at h2
  | succ i=>
    have h1':N'[i+1]?=some y:=h1;rw[S.nm,List.getElem?_cons_succ,List.getElem?_map]at h1';unfold seen at h2;rw[List.getElem?_cons_succ,List.getElem?_map]at h2;cases ej:js[i]? with
    | none=>rw[ej]at h2;cases h2
    | some j=>
      rw[ej]at h1' h2;obtain⟨z,hz,k1,k2⟩:=S.see i j ej;have ey:z=y:=by
       have:X.N.getD j Str.empty=y:=Option.some.inj h1';rw[List.getD_eq_getElem?_getD,hz]at this;exact this
      subst ey;have ev:σ[j]?=some (some v):=by
       have q:σ.getD j none=some v:=Option.some.inj h2;rw[List.getD_eq_getElem?_getD]at q;cases e:σ[j]? with
       | none=>rw[e]at q;cases q
       | some w'=>rw[e]at q;exact congrArg some q
      have kx:X.env.scope.names.lookup z=some .cell∨X.env.scope.names.lookup z=some .free:=k1;obtain⟨u,r,l⟩:=hl j z v hz ev (.inr kx);refine⟨u,r,.inr ⟨k2,?_⟩⟩;obtain⟨c,hc⟩:=S.has z k2;rcases l with ⟨kl,_⟩ | ⟨_,c',e',cell⟩
      · rcases k1 with k1 | k1 <;> rw[k1]at kl <;> cases kl
      have:c'=c:=Option.some.inj (e'.symm.trans (S.sub' hc));subst this;obtain⟨o,q1,q2⟩:=cell;exact⟨c',hc,o,hk _ _ q1,q2⟩
 cell:=fun y c h=>by
  obtain⟨v,o,q1,q2⟩:=I.cell y c (S.sub' h);exact⟨v,o,hk _ _ q1,q2⟩
 free:=I.hok.fresh (Nat.le_refl _)
 freeC:=fun y c h=>I.freeC y c (S.sub' h)
 pin:=fun p hp=>by
  have hp':p∈X.pn++pins:=by
   have q:p∈(X.pn++pins)++[]:=hp;rw[List.append_nil]at q;exact q
  obtain⟨e,n,ne,nf,d⟩:=I.pin p hp';refine⟨hk _ _ e,n,Nat.ne_of_lt (Heap.lt_size e),fun z=>?_,d⟩;rcases List.mem_cons.mp (I.stkSub p.1 z)with q | q
  · exact ne q
  exact nf q
 hok:=I.hok.kept hk
 len:=by
  show(seen σ js).length=N'.length;rw[S.nm];unfold seen;simp
theorem comp_back{s':Shared}{σ':L2.St}{H':Hp}{h':Heap}(I:Inv X pins σ H s)(hf:∀ b∈fp,FpOk X pins H b)(J:Inv (compCx X scope cl N' s H fp pins) [] σ' H' s')(hs:Heap.SameBut s.heap.objs.size s'.heap h') :
 Inv X pins σ H' { s' with heap:=h' }:=by
 have ne:∀ b o,s.heap.get? b=some o->b≠s.heap.objs.size:=fun b o e=>Nat.ne_of_lt (Heap.lt_size e);have u0:Un (frs X.stack) fp H H' s.heap s'.heap:=J.base;have u:Un (frs X.stack) fp H H' s.heap h':=
  ⟨fun b o e n h1 h2=>(hs.2 b (ne b o e)).trans (u0.keep b o e n h1 h2),fun b o e n h1 h2=>let⟨sl,q⟩:=u0.slot b o e n h1 h2;⟨sl,(hs.2 b (ne b o e)).trans q⟩,u0.free,
   fun b o e h2=>let⟨o',q⟩:=u0.there b o e h2;⟨o',(hs.2 b (ne b o e)).trans q⟩,u0.tups,u0.frzs,u0.tbls⟩
 have hfree:H' s.heap.objs.size=none:=J.free;have hok:HOk X.prog X.w H' h':=fun b ob e=>by
  refine(J.hok b ob e).stay (fun c w' hc q=>(hs.2 c ?_).trans q) (fun _ q=>q) fun _ _ q=>q;rintro rfl;rcases hc with rfl | hc
  · rw[hfree]at e;cases e
  rw[hfree]at hc;cases hc
 exact I.call' (s':={ s' with heap:=h' }) J.os u hok J.bare fun b hb=>⟨(hf b hb).2.2.2.1,(hf b hb).2.1,(hf b hb).2.2.2.2.1,(hf b hb).2.2.2.2.2⟩
end
theorem comp_loop{prog:Program}{w:World}{A:Around}{R:Result->Shared->Prop}{s:Shared}{elt target iter:Expr}{ifs:List Expr}{scope:Scope}{pos:Pos}{it acc:Value}{env:Env}(I:Nat->Shared->Prop)
 (turn:∀ n s,I n s->wpAny (model prog w) A (pyNext it) (fun r s₁=>match r with
  | none=>R (.ok .next) s₁
  | some v=>wpAny (model prog w) A (letOwnedTupleGo target it v) (fun _ s₁'=>wpAny (model prog w) A (assign target env v) (fun _ s₂=>
   wpAny (model prog w) A (forIn ifs true fun c r=>if r=true then do let ok ← isTrue c env (eval c env);pure (ForInStep.yield ok)else pure (ForInStep.yield r)) (fun ok s₃=>
    if ok=true then wpAny (model prog w) A (eval elt env) (fun x s₄=>
     wpAny (model prog w) A (call (.builtin "list.append") [acc,x]) (fun _ s₅=>∃ m,m < n/\I m s₅) (fun _ _=>False) s₄) (fun _ _=>False) s₃
    else ∃ m,m < n/\I m s₃) (fun _ _=>False) s₂) (fun _ _=>False) s₁') (fun _ _=>False) s₁) (fun _ _=>False) s)
 (n:Nat) (h:I n s):codeAny (model prog w) A (.compLoop (.ListComp elt [⟨target,iter,ifs,0⟩] scope pos) 0 it acc env) R s:=by
 refine codeAny_loop rfl I (fun n s hI=>?_) n h;show wpAny _ A ((compTurn (.ListComp elt [⟨target,iter,ifs,0⟩] scope pos) 0 it acc env).onRaise (fun x=>do noteFrame x env;theTreesLotGoes x)) _ _ s;refine wpAny_noted ?_;rw[compTurn_list];refine wpAny_bind (wpAny_standAt (wpAny_bind (wpAny_mono (turn n s hI) (fun r s₁ h₁=>?_) fun _ _ h'=>h'.elim)));cases r with
 | none=>exact wpAny_pure h₁
 | some v=>
   refine wpAny_bind (wpAny_mono h₁ (fun _ s₁' h₁'=>?_) fun _ _ h'=>h'.elim);refine wpAny_bind (wpAny_mono h₁' (fun _ s₂ h₂=>wpAny_bind (wpAny_mono h₂ (fun ok s₃ h₃=>?_) fun _ _ h'=>h'.elim)) fun _ _ h'=>h'.elim);cases ok with
   | false=>exact wpAny_pure ⟨rfl,h₃⟩
   | true=>
     exact wpAny_bind (wpAny_bind (wpAny_mono h₃ (fun x s₄ h₄=>wpAny_bind (wpAny_mono h₄ (fun _ s₅ h₅=>wpAny_pure (wpAny_pure ⟨rfl,h₅⟩)) fun _ _ h'=>h'.elim)) fun _ _ h'=>h'.elim))
noncomputable def PTs(X:Cx)(ifs:List Expr)(t:TT):Prop:=
 ∀(pins:List (Addr×Obj)) (s:Shared) (σ:L2.St) (H:Hp) (Q:Bool->Hp->Prop) (E:Value->Shared->Prop),(∀ e s',X.xe e s'->E e s')->Inv X pins σ H s->t σ H Q ->
   wpAny (model X.prog X.w) X.A (forIn ifs true fun c r=>if r=true then do let ok ← isTrue c X.env (eval c X.env);pure (ForInStep.yield ok)else pure (ForInStep.yield r)) (TP X pins σ Q) E s
theorem pts_nil{X:Cx}:PTs X [] (fun _ H Q=>Q true H):=fun _ _ _ H _ _ _ I h=>wpAny_tests_nil ⟨H,I,h⟩
noncomputable def tComp(js:List Nat)(wi:TI)(tt:TT)(te:TE):TE:=fun σ H Q=>wi σ H fun J H1=>∀ D,H1 D=none -> ∃ W:Nat->Nat->L2.St->Hp->Prop,(∃ m,W 0 m (seen σ js) (upd H1 D (.lst []))) /\
 ∀ i m σ' H',W i m σ' H'->(J.stop i H'/\Q (.ref D) H')∨(J.go i H' /\ ∀ x H2,J.yld i H' x H2->tt (σ'.set 0 (some x)) H2 fun ok H3=>
   if ok=true then te (σ'.set 0 (some x)) H3 fun y H4=>∃ ys,H4 D=some (.lst ys)/\ys.length < sizeLine /\ ∃ m',m' < m/\W (i+1) m' (σ'.set 0 (some x)) (upd H4 D (.lst (ys++[y])))
   else ∃ m',m' < m/\W (i+1) m' (σ'.set 0 (some x)) H3)
section
variable{X:Cx}{scope:Scope}{cl:List (Str×Addr)}{x:Str}{js:List Nat}{N':List Str}{elt iter:Expr}{ifs:List Expr}{px pos:Pos}{wi:TI}{tt:TT}{te:TE}
theorem comp_core{RR:Value->Addr->Result->Shared->Prop}{pins:List (Addr×Obj)}{σ:L2.St}{H2:Hp}{s2:Shared}{Q:VK}{it:Addr}{fp:List Addr}{tn:Nat->Heap->Prop}{J:It}(S:CompScope X scope cl x js N')(nd:N'.Nodup)(hc:X.calm=true)
 (ht:∀ s H fp pins,PTs (compCx X scope cl N' s H fp pins) ifs tt) (he:∀ s H fp pins,PE (compCx X scope cl N' s H fp pins) elt te)
 (I2:Inv X pins σ H2 s2) (T:Turn X.prog X.w X.K (.Name x px) J fp it tn) (st2:tn 0 s2.heap) (f2:∀ b∈fp,FpOk X pins H2 b)
 (k:∀ D,H2 D=none -> ∃ W:Nat->Nat->L2.St->Hp->Prop,(∃ m,W 0 m (seen σ js) (upd H2 D (.lst []))) /\
  ∀ i m σ' H',W i m σ' H'->(J.stop i H'/\Q (.ref D) H')∨(J.go i H' /\ ∀ x H2,J.yld i H' x H2->tt (σ'.set 0 (some x)) H2 fun ok H3=>
    if ok=true then te (σ'.set 0 (some x)) H3 fun y H4=>∃ ys,H4 D=some (.lst ys)/\ys.length < sizeLine /\ ∃ m',m' < m/\W (i+1) m' (σ'.set 0 (some x)) (upd H4 D (.lst (ys++[y])))
    else ∃ m',m' < m/\W (i+1) m' (σ'.set 0 (some x)) H3))
 (fin:∀(D C:Addr) (s6:Shared) (H6:Hp) (m:Str->Option Value),s6.heap.Ns C m->(∀ h',Heap.SameBut C s6.heap h'->Inv X pins σ H6 { s6 with heap:=h' })->H6 C=none->FpOk X pins H6 C->Q (.ref D) H6->RR (.ref D) C (.ok .next) s6) :
 wpAny (model X.prog X.w) X.A (newList []) (fun acc s₃=>wpAny (model X.prog X.w) X.A (newFunctionEnv scope X.env.globals cl [] X.env.qual none .none (some X.env)) (fun cenv s₄=>
  codeAny (model X.prog X.w) X.A (.compStart (.ListComp elt [⟨.Name x px,iter,ifs,0⟩] scope pos) 0 (.ref it) acc { cenv with scope:=relabel scope X.env }) (RR acc cenv.locals) s₄) X.xe s₃) X.xe s2:=by
 have hDn:H2 s2.heap.objs.size=none:=I2.hok.fresh (Nat.le_refl _);obtain⟨W,⟨m0,w0⟩,turn⟩:=k s2.heap.objs.size hDn;refine wpAny_newObj_type (wpAny_newFunctionEnv S.nocell (by intro y hy;simp at hy) (fun h4 hns4 hsb4=>?_) S.kind) (by show 0<=sizeLine;exact Nat.zero_le _)
 have I3:Inv X pins σ (upd H2 s2.heap.objs.size (.lst [])) { s2 with heap:=s2.heap.push { cls:=.type "list",dict:=none,data:=.seq ([]:List Value).toArray } }:=
  I2.laid (t':=s2.toks) (fun b u e=>Heap.get?_push_of_some _ e) (Nat.le_refl _) ⟨Nat.zero_le _,[],0,.nil,Heap.get?_push_size _ rfl⟩
 have ltf:∀ b∈fp,b < s2.heap.objs.size:=fun b hb=>let⟨o,e,_⟩:=T.obj 0 _ st2 b hb;Heap.lt_size e;have f3:∀ b∈fp,FpOk X pins (upd H2 s2.heap.objs.size (.lst [])) b:=fun b hb=>⟨by rw[upd_ne (Nat.ne_of_lt (ltf b hb))];exact(f2 b hb).1,(f2 b hb).2⟩
 generalize hH:upd H2 s2.heap.objs.size (.lst [])=H3 at *;generalize hS3:({ s2 with heap:=s2.heap.push { cls:=.type "list",dict:=none,data:=.seq ([]:List Value).toArray } }:Shared)=s3 at *;have o3:∀ b∈fp,b < s3.heap.objs.size:=fun b hb=>by
  rw[← hS3];show b < (s2.heap.push _).objs.size;rw[Heap.size_push];exact Nat.lt_succ_of_lt (ltf b hb)
 have k4:∀ b o,s3.heap.get? b=some o->h4.get? b=some o:=fun b o e=>(hsb4.2 b (Nat.ne_of_lt (Heap.lt_size e))).trans (Heap.get?_push_of_some _ e);have st3:tn 0 s3.heap:=T.keep 0 _ _ st2 fun b hb o e=>by rw[← hS3];exact Heap.get?_push_of_some _ e
 have st4:tn 0 h4:=T.keep 0 _ _ st3 fun b hb o e=>k4 b o e;have I4:Inv (compCx X scope cl N' s3 H3 fp pins) [] (seen σ js) H3 { s3 with heap:=h4,toks:=s3.toks+([]:List (Str×Value)).length }:=comp_inv S I3 f3 o3 rfl rfl hns4 k4;have ok:=comp_ok S I3 f3 o3;have fp5:∀{H':Hp},(∀ b∈fp,H' b=none) -> ∀ b∈fp,FpOk (compCx X scope cl N' s3 H3 fp pins) [] H' b:=fun hn b hb=>
  ⟨hn b hb,Nat.ne_of_lt (o3 b hb),ok.exfs b hb,.inl hb,fun y c h=>(f3 b hb).2.2.2.2.1 y c (S.sub' h),fun p hp=>(f3 b hb).2.2.2.2.2 p (by
   have q:p∈(X.pn++pins)++[]:=hp;rw[List.append_nil]at q;exact q)⟩
 have loop:codeAny (model X.prog X.w) X.A (.compLoop (.ListComp elt [⟨.Name x px,iter,ifs,0⟩] scope pos) 0 (.ref it) (.ref s2.heap.objs.size) (compEnvC scope cl s3.heap.objs.size X.env))
  (RR (.ref s2.heap.objs.size) s3.heap.objs.size) { s3 with heap:=h4,toks:=s3.toks+([]:List (Str×Value)).length }:=by
  refine comp_loop (fun n s'=>∃ i σ' H',Inv (compCx X scope cl N' s3 H3 fp pins) [] σ' H' s'/\tn i s'.heap/\(∀ b∈fp,H' b=none)/\W i n σ' H') ?_ m0 ⟨0,_,_,I4,st4,fun b hb=>(f3 b hb).1,w0⟩;rintro n s5 ⟨i,σ5,H5,I5,st5,fr5,w5⟩;rcases turn i n σ5 H5 w5 with ⟨stop,q⟩ | ⟨go,step⟩
  · refine wpAny_mono (T.done (compCx X scope cl N' s3 H3 fp pins) rfl rfl rfl hc i [] s5 σ5 H5 (fun _ _=>False) I5 (fp5 fr5) st5 stop) (fun r s6 ⟨hr,I6⟩=>?_) (fun _ _ z=>z.elim)
    subst hr;obtain⟨m,hm,_⟩:=I6.loc;exact fin _ _ s6 H5 m hm (fun h' hs'=>comp_back I3 f3 I6 hs') I6.free (I3.fpOk (Nat.le_refl _) I6.free) q
  refine wpAny_mono (T.item (compCx X scope cl N' s3 H3 fp pins) rfl rfl rfl hc i [] s5 σ5 H5 (fun _ _=>False) I5 (fp5 fr5) st5 go) (fun r s6 ⟨u,hr,h6⟩=>?_) (fun _ _ z=>z.elim);subst hr;refine wpAny_mono h6 (fun _ s6 ⟨y,H6,I6,r6,y6,st6,fr6⟩=>?_) (fun _ _ z=>z.elim);have I6':=I6.pinned (fp5 fr6) (T.obj _ _ st6);have again:∀{σ7:L2.St}{H7:Hp}{s7:Shared}{m':Nat},Inv (compCx X scope cl N' s3 H3 fp pins) ([]++pinsAt fp s6.heap) σ7 H7 s7->m' < n->W (i+1) m' σ7 H7 ->
   ∃ m,m < n /\ ∃ i σ' H',Inv (compCx X scope cl N' s3 H3 fp pins) [] σ' H' s7/\tn i s7.heap/\(∀ b∈fp,H' b=none)/\W i m σ' H':=fun {σ7 H7 s7 m'} I7 hm w7=>by
   refine⟨m',hm,i+1,σ7,H7,I7.unpinned,T.keep _ _ _ st6 fun b hb o e=>(I7.pin (b,o) (List.mem_append_right _ (List.mem_append_right _ (mem_pinsAt hb e)))).1,fun b hb=>?_,w7⟩;obtain⟨o,e,d⟩:=T.obj _ _ st6 b hb;exact(I7.pin (b,o) (List.mem_append_right _ (List.mem_append_right _ (mem_pinsAt hb e)))).2.1
  have step':=step y H6 y6;refine wpAny_mono (pg_name (X:=compCx X scope cl N' s3 H3 fp pins) (i:=0) (x:=x) (pos:=px) nd (by show N'[0]?=some x;rw[S.nm];rfl) (.inl (lookup_relabel_local S.own)) (.inr (lookup_relabel_local S.own)) _ s6 σ5 H6 y u
   (fun σ' H'=>σ'=σ5.set 0 (some y)/\H'=H6) I6' r6 ⟨rfl,rfl⟩) (fun _ s7 ⟨σ7,H7,I7,e7,eH⟩=>?_) (fun _ _ z=>z.elim)
  subst e7;subst eH;refine wpAny_mono (ht s3 H3 fp pins _ s7 _ H7 _ (fun _ _=>False) (fun _ _ z=>z) I7 step') (fun okk s8 ⟨H8,I8,q8⟩=>?_) (fun _ _ z=>z.elim);cases okk with
  | false=>
    obtain⟨m',hm,w8⟩:=q8;exact again I8 hm w8
  | true=>
    refine wpAny_mono (he s3 H3 fp pins _ s8 _ H8 _ I8 q8) (fun ev s9 ⟨z,H9,I9,r9,ys,hys,hlen,m',hm,w9⟩=>?_) (fun _ _ z=>z.elim);refine wpAny_mono (mt_append (X:=compCx X scope cl N' s3 H3 fp pins) _ s9 _ H9 (.ref s2.heap.objs.size) [z] (.ref s2.heap.objs.size) [ev] (fun _ H'=>H'=upd H9 s2.heap.objs.size (.lst (ys++[z]))) I9 rfl (.cons r9 .nil)
     ⟨_,ys,z,rfl,rfl,hys,hlen,rfl⟩) (fun _ s10 ⟨_,H10,I10,_,e10⟩=>?_) (fun _ _ z=>z.elim)
    subst e10;exact again I10 hm w9
 exact codeAny_compStart_list loop (T.self X.A 0 _ _ _ st4 loop)
theorem pe_comp(S:CompScope X scope cl x js N')(nd:N'.Nodup)(hc:X.calm=true)(hi:PI X (.Name x px) iter wi)
 (ht:∀ s H fp pins,PTs (compCx X scope cl N' s H fp pins) ifs tt) (he:∀ s H fp pins,PE (compCx X scope cl N' s H fp pins) elt te)
 (hs:∀ x,foldedSetIterable iter X.env x=pure x:=by intro _;rfl):PE X (.ListComp elt [⟨.Name x px,iter,ifs,0⟩] scope pos) (tComp js wi tt te):=by
 intro pins s σ H Q I h;rw[eval_ListComp];refine wpAny_comprehension_free (use:=none) rfl hs S.clos S.kind S.names (thn (hi pins s σ H _ I h) fun v s1 h1=>thn h1 fun itv s2 h2=>?_);obtain⟨it,fp,tn,J,H2,e,I2,T,st2,f2,k⟩:=h2;subst e;exact comp_core (RR:=fun acc C=>compPost (model X.prog X.w) X.A X.xe none (EP X pins σ Q) acc C) S nd hc ht he I2 T st2 f2 k fun D C s6 H6 m hm back _ _ q=>⟨m,hm,fun h' hs'=>⟨.ref D,H6,back h' hs',rfl,q⟩⟩
end
noncomputable def SubCl(cells:List (Str×Addr)):List (Str×Addr)->Prop
 | []=>True
 | p::r=>cells.lookup p.1=some p.2/\SubCl cells r
theorem SubCl.all{cells:List (Str×Addr)}:∀{cl:List (Str×Addr)},SubCl cells cl -> ∀ p∈cl,cells.lookup p.1=some p.2
 | _::_,h,p,hp=>by
   rcases List.mem_cons.mp hp with rfl | hp
   · exact h.1
   exact SubCl.all h.2 p hp
noncomputable def isCF(k:Option NameKind):Bool:=k == some .cell || k == some .free
theorem isCF_of{k:Option NameKind}(h:isCF k=true):k=some .cell∨k=some .free:=by
 unfold isCF at h;rw[Bool.or_eq_true]at h;exact h.imp beq_iff_eq.mp beq_iff_eq.mp
theorem CompScope.of{X:Cx}{scope:Scope}{cl:List (Str×Addr)}{x:Str}{js:List Nat}{N':List Str}(clos:closureFor scope X.env=pure cl)(kind:scope.kind=.function)(nocell:scope.names.all (fun y=>y.2 != .cell)=true)
 (names:scope.names.all (fun y=>y.2 != .local || scope.names.lookup y.1 == some .local)=true) (own:scope.names.lookup x=some .local) (sub:SubCl X.env.cells cl)
 (has:(relabel scope X.env).names.all (fun p=>!isCF (some p.2) || (cl.lookup p.1).isSome)=true) (nm:N'=x::js.map fun j=>X.N.getD j Str.empty)
 (see:js.all (fun j=>match X.N[j]? with | some y=>isCF (X.env.kindOf y) && isCF ((relabel scope X.env).names.lookup y) | none=>false)=true):CompScope X scope cl x js N' where
 clos:=clos
 kind:=kind
 nocell:=fun y hy=>by
  have:=List.all_eq_true.mp nocell y hy;exact bne_iff_ne.mp this
 names:=fun y hy e=>by
  have:=List.all_eq_true.mp names y hy;rw[e]at this;exact beq_iff_eq.mp (by simpa using this)
 own:=own
 sub:=sub.all
 has:=fun y h=>by
  have go:∀ k,(relabel scope X.env).names.lookup y=some k->isCF (some k)=true -> ∃ c,cl.lookup y=some c:=fun k hk hc=>by
   have:=List.all_eq_true.mp has (y,k) (PySem.mem_of_lookup hk);simp only[hc,Bool.not_true,Bool.false_or]at this;exact Option.isSome_iff_exists.mp this
  rcases h with h | h
  · exact go _ h rfl
  exact go _ h rfl
 nm:=nm
 see:=fun i j e=>by
  have:=List.all_eq_true.mp see j (List.mem_of_getElem? e);cases ey:X.N[j]? with
  | none=>rw[ey]at this;cases this
  | some y=>
    rw[ey]at this;rw[Bool.and_eq_true]at this;exact⟨y,rfl,isCF_of this.1,isCF_of this.2⟩
namespace B
section
variable{X:Cx}{scope:Scope}{cl:List (Str×Addr)}{x:Str}{N':List Str}{elt iter c:Expr}{px pos:Pos}{wi:TI}{te:TE}{tc:TT}
theorem comp(js:List Nat)(N':List Str)(S:CompScope X scope cl x js N')(nd:N'.Nodup)(hi:Bx (PI X (.Name x px) iter wi))(he:∀ s H fp pins,Bx (PE (compCx X scope cl N' s H fp pins) elt te))(hc:X.calm=true:=by rfl)
 (hs:∀ x,foldedSetIterable iter X.env x=pure x:=by intro _;rfl):Bx (PE X (.ListComp elt [⟨.Name x px,iter,[],0⟩] scope pos) (tComp js wi (fun _ H Q=>Q true H) te)):=
 ⟨pe_comp S nd hc hi.out (fun _ _ _ _=>pts_nil) (fun s H fp pins=>(he s H fp pins).out) hs⟩
end
end B
section
variable{X:Cx}
end
theorem wComp{σ:L2.St}{H:Hp}{Q:VK}{js:List Nat}{wi:TI}{tt:TT}{te:TE}(h:wi σ H fun J H1=>∀ D,H1 D=none -> ∃ W:Nat->Nat->L2.St->Hp->Prop,(∃ m,W 0 m (seen σ js) (upd H1 D (.lst []))) /\
 ∀ i m σ' H',W i m σ' H'->(J.stop i H'/\Q (.ref D) H')∨(J.go i H' /\ ∀ x H2,J.yld i H' x H2->tt (σ'.set 0 (some x)) H2 fun ok H3=>
   if ok=true then te (σ'.set 0 (some x)) H3 fun y H4=>∃ ys,H4 D=some (.lst ys)/\ys.length < sizeLine /\ ∃ m',m' < m/\W (i+1) m' (σ'.set 0 (some x)) (upd H4 D (.lst (ys++[y])))
   else ∃ m',m' < m/\W (i+1) m' (σ'.set 0 (some x)) H3)):tComp js wi tt te σ H Q:=h
mutual
inductive DatV(K:W.Frag)(H:Hp):V->PyData->Prop
 | non:DatV K H .non .none
 | bl (b:Bool):DatV K H (.bl b) (.bool b)
 | int (i:Int):DatV K H (.int i) (.int i)
 | str (x:PySem.Str):DatV K H (.str x) (.str x)
 | lst {a:Addr}{xs:List V}{ds:List PyData} (h:SqL K H a xs) (r:DatVs K H xs ds):DatV K H (.ref a) (.list ds)
 | tup {a:Addr}{xs:List V}{ds:List PyData} (h:SqT K H a xs) (r:DatVs K H xs ds):DatV K H (.ref a) (.tuple ds)
inductive DatVs(K:W.Frag)(H:Hp):List V->List PyData->Prop
 | nil:DatVs K H [] []
 | cons {x:V}{xs:List V}{d:PyData}{ds:List PyData} (h:DatV K H x d) (r:DatVs K H xs ds):DatVs K H (x::xs) (d::ds)
end
section
variable{X:Cx}{pins:List (Addr×Obj)}{σ:L2.St}{H:Hp}{s:Shared}
mutual
theorem reads_of(I:Inv X pins σ H s):∀{v:V}{d:PyData}{u:Value},DatV X.K H v d->RelV v u -> ∃ as,Reads s.heap u d as
 | _,_,u,.non,r=>by
   cases (show u=Value.none from r);exact⟨_,.none⟩
 | _,_,u,.bl b,r=>by
   cases (show u=Value.bool b from r);exact⟨_,.bool b⟩
 | _,_,u,.int i,r=>by
   obtain⟨t,e⟩:=(show ∃ t,u=Value.int i t from r);cases e;exact⟨_,.int i t⟩
 | _,_,u,.str x,r=>by
   obtain⟨t,e⟩:=(show ∃ t,u=Value.str x t from r);cases e;exact⟨_,.str x t⟩
 | _,_,u,.lst (a:=a) h q,r=>by
   cases (show u=Value.ref a from r);obtain⟨its,rv,⟨o,n,e,c,_,d⟩,_⟩:=I.list h;obtain⟨as,z⟩:=reads_all I q rv;exact⟨_,.list e c d (by simpa using z)⟩
 | _,_,u,.tup (a:=a) h q,r=>by
   cases (show u=Value.ref a from r);obtain⟨its,rv,⟨o,e,c,n,d⟩,_⟩:=I.tuple h;obtain⟨as,z⟩:=reads_all I q rv;exact⟨_,.tuple e c d (by simpa using z)⟩
theorem reads_all(I:Inv X pins σ H s):∀{xs:List V}{ds:List PyData}{us:List Value},DatVs X.K H xs ds->Vals xs us -> ∃ as,ReadsAll s.heap us ds as
 | _,_,_,.nil,.nil=>⟨_,.nil⟩
 | _,_,_,.cons h r,.cons q qs=>by
   obtain⟨a1,z1⟩:=reads_of I h q;obtain⟨a2,z2⟩:=reads_all I r qs;exact⟨_,.cons z1 z2⟩
end
noncomputable def rEqD(K:W.Frag):R2:=fun x y H Q=>∃ d e,DatV K H x d/\DatV K H y e/\d.canLay0=true/\e.canLay0=true/\d.depth<=60/\Q (.bl (PyData.eqv d e)) H
noncomputable def rNeD(K:W.Frag):R2:=fun x y H Q=>∃ d e,DatV K H x d/\DatV K H y e/\d.canLay0=true/\e.canLay0=true/\d.depth<=60/\Q (.bl (!PyData.eqv d e)) H
theorem op_eqD(K:W.Frag)(hu:X.A.units+64 < cLine)(hK:X.K=K:=by rfl):OpR X (compareOp .Eq) (rEqD K):=by
 subst hK;intro pins s σ H x y v u Q I rx ry h;obtain⟨d,e,hd,he,c1,c2,dp,q⟩:=h;obtain⟨as,r1⟩:=reads_of I hd rx;obtain⟨bs,r2⟩:=reads_of I he ry;exact SeqAt.compareEq_reads r1 r2 c1 c2 (by omega) ⟨.bl _,H,I,rfl,q⟩
theorem op_neD(K:W.Frag)(hu:X.A.units+64 < cLine)(hK:X.K=K:=by rfl):OpR X (compareOp .NotEq) (rNeD K):=by
 subst hK;intro pins s σ H x y v u Q I rx ry h;obtain⟨d,e,hd,he,c1,c2,dp,q⟩:=h;obtain⟨as,r1⟩:=reads_of I hd rx;obtain⟨bs,r2⟩:=reads_of I he ry;exact SeqAt.compareNe_reads r1 r2 c1 c2 (by omega) ⟨.bl _,H,I,rfl,q⟩
theorem wEqSame{K:W.Frag}{H:Hp}{Q:VK}{x y:V}{d:PyData}(hx:DatV K H x d)(hy:DatV K H y d)(c:d.canLay0=true)(dp:d.depth<=60)(q:Q (.bl true) H):rEqD K x y H Q:=
 ⟨d,d,hx,hy,c,c,dp,by rw[SeqAt.eqv_refl d c];exact q⟩
theorem wNeSame{K:W.Frag}{H:Hp}{Q:VK}{x y:V}{d:PyData}(hx:DatV K H x d)(hy:DatV K H y d)(c:d.canLay0=true)(dp:d.depth<=60)(q:Q (.bl false) H):rNeD K x y H Q:=
 ⟨d,d,hx,hy,c,c,dp,by rw[SeqAt.eqv_refl d c];exact q⟩
end
noncomputable def ViewO(v d:Addr):HO:=.ext fun h=>h.IsItemsView v d
noncomputable def over(n:Nat)(H N:Hp):Hp:=fun b=>if b < n then H b else N b
theorem over_old{n:Nat}{H N:Hp}{b:Addr}(h:b < n):over n H N b=H b:=if_pos h
theorem over_new{n:Nat}{H N:Hp}{b:Addr}(h:n<=b):over n H N b=N b:=if_neg (Nat.not_lt.mpr h)
section
variable{X:Cx}{pins:List (Addr×Obj)}{σ:L2.St}{H N:Hp}{s:Shared}{h':Heap}
theorem Inv.over{t':Nat}(I:Inv X pins σ H s)(k:∀ b u,s.heap.get? b=some u->h'.get? b=some u)(new:∀ b o,s.heap.objs.size<=b->N b=some o->ObjOk X.prog X.w (over s.heap.objs.size H N) h' b o) :
 Inv X pins σ (over s.heap.objs.size H N) { s with heap:=h',toks:=t' }:=by
 have lt:∀ b o,H b=some o->b < s.heap.objs.size:=fun b o e=>I.hok.lt e;refine I.un ⟨fun b u q _ _ _=>k b u q,fun b u q _ _ _=>⟨u.slots,k b u q⟩,fun b u q n _=>?_,fun b u q _=>⟨u,k b u q⟩,fun b xs q=>?_,fun b u xs q=>?_,fun b ps q=>⟨#[],?_⟩⟩ fun b o e=>?_
 · rw[over_old (Heap.lt_size q)];exact n
 · rw[over_old (lt _ _ q)];exact q
 · rw[over_old (lt _ _ q)];exact q
 · rw[over_old (lt _ _ q),q];simp
 by_cases hb:b < s.heap.objs.size
 · rw[over_old hb]at e
   exact(I.hok b o e).stay (fun c v _ q=>k c v q) (fun c q=>by rw[over_old (lt _ _ q)];exact q) fun c xs q=>by rw[over_old (lt _ _ q)];exact q
 have hb:=Nat.not_lt.mp hb;rw[over_new hb]at e;exact new b o hb e
end
noncomputable def newIt(l:Addr)(as:List Addr)(kvs:List (Key×V)):Hp:=fun b=>if b=l then some (.lst (as.map V.ref))else((as.zip kvs).find? fun p=>decide (p.1=b)).map fun p=>.tup [kV p.2.1,p.2.2]
theorem newIt_at{l:Addr}{as:List Addr}{kvs:List (Key×V)}(nd:as.Nodup):∀{j:Nat}{a:Addr}{k:Key}{x:V},a≠l->as[j]?=some a->kvs[j]?=some (k,x)->newIt l as kvs a=some (.tup [kV k,x]):=by
 intro j a k x hl h1 h2;unfold newIt;rw[if_neg hl];have key:∀(as:List Addr) (kvs:List (Key×V)) (j:Nat),as.Nodup->as[j]?=some a->kvs[j]?=some (k,x)->((as.zip kvs).find? fun p=>decide (p.1=a))=some (a,(k,x)):=by
  intro as
  induction as with
  | nil=>intro kvs j _ h;simp at h
  | cons b as ih=>
    intro kvs j nd h1 h2;cases kvs with
    | nil=>simp at h2
    | cons p kvs=>
      cases j with
      | zero=>
        simp at h1 h2;subst h1;subst h2;simp
      | succ j=>
        simp at h1 h2;have hm:a∈as:=List.mem_of_getElem? h1;have hne:b≠a:=fun e=>(List.nodup_cons.mp nd).1 (e ▸ hm);rw[List.zip_cons_cons,List.find?_cons_of_neg (by simpa using hne)]
        exact ih kvs j (List.nodup_cons.mp nd).2 h1 h2
 rw[key as kvs j nd h1 h2]
 rfl
theorem newIt_inv{l:Addr}{as:List Addr}{kvs:List (Key×V)}{b:Addr}{o:HO}(hl:as.length=kvs.length)(h:newIt l as kvs b=some o):(b=l/\o=.lst (as.map V.ref)) ∨ ∃(j:Nat) (k:Key) (x:V),as[j]?=some b/\kvs[j]?=some (k,x)/\o=.tup [kV k,x]:=by
 unfold newIt at h;split at h
 · rename_i e
   exact .inl ⟨e,(Option.some.inj h).symm⟩
 obtain⟨p,hp,e⟩:=Option.map_eq_some_iff.mp h;have hm:=List.mem_of_find?_eq_some hp;have hb0:decide (p.1=b)=true:=List.find?_some (p:=fun p:Addr×(Key×V)=>decide (p.1=b)) hp;have hb:=of_decide_eq_true hb0;obtain⟨j,hj⟩:=List.mem_iff_getElem?.mp hm;rw[List.getElem?_zip_eq_some]at hj;exact .inr ⟨j,p.2.1,p.2.2,by rw[← hb];exact hj.1,hj.2,e.symm⟩
theorem kv_get:∀{kvs:List (Key×V)}{vs:List (Key×Value)}{j:Nat}{k:Key}{y:Value},KV kvs vs->vs[j]?=some (k,y) -> ∃ x,kvs[j]?=some (k,x)/\RelV x y
 | _,_,_,_,_,.nil,e=>by simp at e
 | _,_,0,_,_,.cons (a:=a) r _,e=>by
   simp at e;subst e;exact⟨a.2,by rw[List.getElem?_cons_zero];exact congrArg some (Prod.ext r.1 rfl),r.2⟩
 | _,_,j+1,_,_,.cons _ t,e=>by
   obtain⟨x,h1,h2⟩:=kv_get (j:=j) t (by simpa using e)
   exact⟨x,by simpa using h1,h2⟩
theorem kV_rel{k:Key}{v:Value}(h:keyIs k v=true):RelV (kV k) v:=by
 rcases keyIs_shape h with ⟨i,t,rfl,rfl⟩ | ⟨x,t,rfl,rfl⟩
 · exact⟨t,rfl⟩
 exact⟨t,rfl⟩
theorem vals_refs:∀ as:List Addr,Vals (as.map V.ref) (as.map Value.ref)
 | []=>.nil
 | _::as=>.cons rfl (vals_refs as)
section
variable{X:Cx}
theorem call_list_items:CallR X (.type "list") (fun xs H Q=>∃ v d kvs,xs=[.ref v]/\H v=some (ViewO v d)/\H d=some (.dK kvs)/\X.calm=true /\ ∀(l:Addr) (as:List Addr) (H':Hp),Same H H'->H l=none->H' l=some (.lst (as.map V.ref))->as.length=kvs.length ->
 (∀(j:Nat) (a:Addr),as[j]?=some a->H a=none /\ ∃ k x,kvs[j]?=some (k,x)/\H' a=some (.tup [kV k,x]))->Q (.ref l) H'):=by
 intro pins s σ H xs us Q I r h;obtain⟨v,d,kvs,rfl,hv,hd,hc,q⟩:=h;obtain⟨u,rfl,rx⟩:=vals1 r;cases rx;obtain⟨pv,_,_⟩:=(show ObjOk X.prog X.w H s.heap v (ViewO v d)from I.hok v _ hv);obtain⟨z,hsys,vs,rel,dd⟩:=dk_rd I.hok (.inl hd);obtain⟨ep,hat⟩:=dd.dictAt;have lenKV:kvs.length=vs.length:=Paired.length rel;refine W.kdx_call (knd:=mixKind X.prog X.w) (I.ok.hd hc) pv hat (by omega) fun h' tk acc c as hk hS hl hG hacc=>?_
 have hl':as.length=kvs.length:=by omega
 have nd:as.Nodup:=hG.rise.imp fun h=>Nat.ne_of_lt h;have ab:∀ a∈as,s.heap.objs.size < a:=hG.above;have get:∀(j:Nat) (a:Addr),as[j]?=some a -> ∃ key k x y,kvs[j]?=some (k,x)/\keyIs k key=true/\RelV x y/\h'.get? a=some { cls:=.type "tuple",data:=.seq #[key,y] }:=fun j a e=>by
  obtain⟨key,k,y,e1,e2,e3⟩:=hG.pairs j a e;obtain⟨x,h1,h2⟩:=kv_get rel e1;exact⟨key,k,x,y,h1,e2,h2,e3⟩
 have I':=Inv.over (N:=newIt s.heap.objs.size as kvs) (t':=tk) I hk fun b o hb e=>by
  rcases newIt_inv hl' e with ⟨rfl,rfl⟩ | ⟨j,k,x,e1,e2,rfl⟩
  · refine⟨by rw[List.length_map];omega,as.map Value.ref,c,vals_refs as,?_⟩
    have ea:(as.map Value.ref).toArray=acc:=by rw[← hacc]
    rw[ea];exact hS
  obtain⟨key,k',x',y,g1,g2,g3,g4⟩:=get j b e1;rw[e2]at g1;cases g1;exact⟨by show(2:Nat)<=sizeLine;decide,[key,y],.cons (kV_rel g2) (.cons g3 .nil),_,g4,rfl,_,rfl⟩
 have lt:∀ b o,H b=some o->b < s.heap.objs.size:=fun b o e=>I.hok.lt e;refine⟨.ref s.heap.objs.size,_,I',rfl,q s.heap.objs.size as _ (fun b o e=>by rw[over_old (lt b o e)];exact e) (I.hok.fresh (Nat.le_refl _)) ?_ hl' fun j a e=>?_⟩
 · rw[over_new (Nat.le_refl _)]
   exact if_pos rfl
 have ha:=ab a (List.mem_of_getElem? e);obtain⟨key,k,x,y,g1,_⟩:=get j a e;exact⟨I.hok.fresh (Nat.le_of_lt ha),k,x,g1,by rw[over_new (Nat.le_of_lt ha)];exact newIt_at nd (Nat.ne_of_gt ha) e g1⟩
end
section
variable{X:Cx}{o:Expr}{apos cpos:Pos}{td:TE}
noncomputable def tItems(td:TE):TE:=fun σ H Q=>td σ H fun x H1=>∃ a kvs,x=.ref a/\H1 a=some (.dK kvs) /\ ∀ v,H1 v=none->Q (.ref v) (upd H1 v (ViewO v a))
theorem pe_items(ho:PE X o td)(hbase:attributeBase o "items" X.env (eval o X.env)=eval o X.env:=by rfl)
 (hfew:((backTo cpos (starEach [] X.env)).all (fun x=>!x.1) && (backToKw cpos (keywordEach [] X.env)).all (fun x=>x.1.isSome) && decide (([]:List Expr).length+([]:List Keyword).length+(if([]:List Keyword).isEmpty then 0 else 1) < 30))=true:=by rfl)
 (hline:(apos.endLine == cpos.line)=true:=by rfl):PE X (.Call (.Attribute o "items" apos) [] [] cpos) (tItems td):=by
 intro pins s σ H Q I h;refine wpAny_Call_method hbase hfew hline PySem.F.plainAttrs_dict PySem.F.slot_dict_items PySem.F.type_dict_items (thn (ho pins s σ H _ I h) fun u s1 zz=>?_);obtain⟨x,H1,I1,rx,a,kvs,ex,ha,q1⟩:=zz;subst ex;obtain rfl:u=Value.ref a:=rx;obtain⟨t1,t2,_⟩:=isD_at I1 (.inl ⟨kvs,.inl ha⟩);refine⟨t1,t2,?_⟩;obtain⟨z,hsys,vs,rel,dd⟩:=dk_rd I1.hok (.inl ha);have e0:backTo cpos (starEach [] X.env)=[]:=rfl;rw[e0];refine Calls.callWith_builtin rfl (PySem.evalArgs_none ?_);have lay:s1.heap.objs.size<=s1.heap.objs.size:=Nat.le_refl _;refine call_meetsIn PySem.F.slot_dict_items t1 PySem.F.entry_dict_items (PySem.F.args_dict_items_1 _) (meets_dict_items (mixKind X.prog X.w) a hsys) ⟨⟨vs,dd⟩,?_⟩;refine⟨.ref s1.heap.objs.size,upd H1 s1.heap.objs.size (ViewO s1.heap.objs.size a),I1.laid (t':=s1.toks) (fun b u e=>Heap.get?_push_of_some _ e) lay ?_,rfl,q1 _ (I1.hok.fresh lay)⟩;refine⟨⟨_,Heap.get?_push_size _ rfl,rfl,rfl⟩,⟨_,Heap.get?_push_size _ rfl⟩,fun h1 h2 ⟨o1,e1,c1,d1⟩ k=>⟨o1,k o1 e1,c1,d1⟩⟩
namespace B
theorem items(ho:Bx (PE X o td))(hbase:attributeBase o "items" X.env (eval o X.env)=eval o X.env:=by rfl)
 (hfew:((backTo cpos (starEach [] X.env)).all (fun x=>!x.1) && (backToKw cpos (keywordEach [] X.env)).all (fun x=>x.1.isSome) && decide (([]:List Expr).length+([]:List Keyword).length+(if([]:List Keyword).isEmpty then 0 else 1) < 30))=true:=by rfl)
 (hline:(apos.endLine == cpos.line)=true:=by rfl):Bx (PE X (.Call (.Attribute o "items" apos) [] [] cpos) (tItems td)):=⟨pe_items ho.out hbase hfew hline⟩
end B
end
structure Mt(P:Program)(w:World)(K:W.Frag)(mg:Str->Option Value)(base:Heap)(C:Addr)(m:Str)(k:Nat)(ps:List Str)(sp:Sp):Prop where
 ex:∃(f:Addr) (fd:FuncData),FnOk P w K mg base CX0 k f fd ps sp/\Meth K C m f/\Binds K fd ps []
structure Mkr(P:Program)(w:World)(K:W.Frag)(mg:Str->Option Value)(base:Heap)(C:Addr)(x:Str)(k:Nat)(ps:List Str)(sp:Sp):Prop where
 ex:∃(f:Addr) (fd:FuncData),FnOk P w K mg base CX0 k f fd ps sp/\Mk K C f/\mg x=some (.ref C)/\Binds K fd ps []
namespace B
section
variable{X:Cx}{x m f:Str}{p pos apos cpos tpos pos':Pos}{e o i value:Expr}{es:List Expr}{t:TA}{ta te ti tv td ty tx:TE}{k:Nat}{ps:List Str}{sp:Sp}{C:Addr}
theorem never{st:Stmt}:Bx (PS X st tNever):=⟨ps_never⟩
theorem gref{a:Addr}(h:X.mg x=some (.ref a))(hg:Gl X x:=by rfl)(hd:(x == ("__debug__":Str))=false:=by decide):Bx (PE X (.Name x pos) (tC (.ref a))):=⟨pe_glob hg h rfl hd⟩
theorem fld(he:Bx (PE X e ta))(hb:attributeBase e f X.env (eval e X.env)=eval e X.env:=by rfl):Bx (PE X (.Attribute e f pos) (tFld X.K ta f)):=⟨pe_fld he.out hb⟩
theorem sfld(ha:Bx (PE X o ta))(hv:Bx (PE X value tv))(hs:swapsWith value (some (.Attribute o f pos')) pos.line X.env=pure false:=by rfl):Bx (PS X (.Assign [.Attribute o f pos'] value pos) (sFld X.K ta tv f)):=⟨ps_fld ha.out hv.out hs⟩
theorem faug{op:Operator}{rd:V->V->Hp->VK->Prop}(hop:InOp X op rd)(ha:Bx (PE X o ta))(hv:Bx (PE X value tv)):Bx (PS X (.AugAssign (.Attribute o f tpos) op value pos) (sFldAug X.K ta tv rd f)):=⟨ps_fldaug ha.out hv.out hop⟩
theorem dnew:Bx (PE X (.Dict [] [] pos) tDNewK):=⟨pe_dnewK⟩
theorem dput(hu:X.A.units+1 < cLine)(ho:Bx (PE X o td))(hi:Bx (PE X i ty))(hv:Bx (PE X value tv))(hs:swapsWith value (some (.Subscript o i pos')) pos.line X.env=pure false:=by rfl):Bx (PS X (.Assign [.Subscript o i pos'] value pos) (sDPut td ty tv)):=⟨ps_dput hu ho.out hi.out hv.out hs⟩
theorem m1{m:Str}(base:attributeBase o m X.env (eval o X.env)=eval o X.env:=by rfl)(h:plainE e=true:=by rfl)(line:(apos.endLine == cpos.line)=true:=by rfl):M1 X o m apos e cpos:=by
 have t:backTo cpos (starEach [e] X.env)=[(false,eval e X.env)]:=by rw[star_of h];rfl
 exact⟨base,by rw[t];rfl,line,t⟩
theorem dget1(hu:X.A.units+1 < cLine)(ho:Bx (PE X o td))(he:Bx (PE X e ty))(m:M1 X o "get" apos e cpos:=by exact m1):Bx (PE X (.Call (.Attribute o "get" apos) [e] [] cpos) (tDGet1 td ty)):=⟨pe_dget1 hu ho.out he.out m⟩
theorem meth(he:Bx (PE X o ta))(c:Cls X.K C)(M:Mt X.prog X.w X.K X.mg X.base C m k ps sp)(hr:Room k X.A)(ha:Bx (PA X (e::es) t))(h1:plainE e=true:=by rfl)(h2:es.all plainE=true:=by rfl)
 {pl:Sem Bool} (ht':eval (.Call (.Attribute o m apos) (e::es) [] pos) X.env=(do
  let ov ← eval o X.env
  standAt apos.atName
  let(f,first) ← holding [ov] (getMethod ov m pl)
  callWith pos f first (backTo pos (starEach (e::es) X.env)) (backToKw pos (keywordEach [] X.env))):=by rfl) :
 Bx (PE X (.Call (.Attribute o m apos) (e::es) [] pos) (tMeth C m sp [] E0 ta t)):=by
 obtain⟨f,fd,G,hm,b⟩:=M.ex;exact⟨pe_meth he.out c hm G hr b .nil pass0 ha.out (star_of h1) (star_any h2) ht'⟩
theorem make(M:Mkr X.prog X.w X.K X.mg X.base C x k ps sp)(hr:Room (k+1) X.A)(ha:Bx (PA X (e::es) t))(hg:Gl X x:=by rfl)(hdb:(x == ("__debug__":Str))=false:=by decide)(h1:plainE e=true:=by rfl)(h2:es.all plainE=true:=by rfl) :
 Bx (PE X (.Call (.Name x p) (e::es) [] pos) (tMake C sp [] E0 t)):=by
 obtain⟨f,fd,G,M,hm,b⟩:=M.ex;exact⟨pe_make M G hr hg hm b .nil pass0 ha.out hdb (star_of h1) (star_any h2)⟩
end
end B
theorem b_list:bootBuiltins "list"=some (.type "list"):=by decide +kernel
namespace B
theorem meth0{X:Cx}{m:Str}{apos pos:Pos}{o:Expr}{ta:TE}{k:Nat}{ps:List Str}{sp:Sp}{C:Addr}(he:Bx (PE X o ta))(c:Cls X.K C)(M:Mt X.prog X.w X.K X.mg X.base C m k ps sp)(hr:Room k X.A){pl:Sem Bool}
 (ht':eval (.Call (.Attribute o m apos) [] [] pos) X.env=(do
  let ov ← eval o X.env
  standAt apos.atName
  let(f,first) ← holding [ov] (getMethod ov m pl)
  callWith pos f first (backTo pos (starEach [] X.env)) (backToKw pos (keywordEach [] X.env))):=by rfl) :
 Bx (PE X (.Call (.Attribute o m apos) [] [] pos) (tMeth C m sp [] E0 ta tNil)):=by
 obtain⟨f,fd,G,hm,b⟩:=M.ex;exact⟨pe_meth0 he.out c hm G hr b .nil pass0 ht'⟩
end B
structure Dm(K:W.Frag)(C:Addr)(m qual:Str)(st:Stmt)(ps:List Str):Prop where
 ex:∃(f:Addr) (fd:FuncData),Fun K m qual st f fd/\Meth K C m f/\Binds K fd ps []
theorem Dm.mt{P:Program}{w:World}{K:W.Frag}{mg:Str->Option Value}{base:Heap}{C:Addr}{m qual:Str}{st:Stmt}{N ps:List Str}{k:Nat}{sp:Sp}(d:Dm K C m qual st ps)(S:FnScope N ps (defScope st))(len:∀ vs H Q E,sp vs H Q E->vs.length=ps.length)
 (hb:∀(f:Addr) (cdv:Value) (A:Around) (outer:List Env) (s:Shared) (H:Hp) (vs:List V) (Q:VK) (E:XK),Room k (A.deeper (envOfC qual (defScope st) s.heap.objs.size f cdv))->sp vs H Q E ->
  ∃ t,Bx (PSs (cxOf CX0 P w K mg base N qual (defScope st) f cdv A outer s H E).nox (defBody st) t)/\t { nx:=fun _ H'=>Q .non H',rt:=Q } (start N vs) H):Mt P w K mg base C m (k+1) ps sp:=by
 obtain⟨f,fd,F,hm,hb'⟩:=d.ex;exact⟨f,fd,F.ok S len (fun cdv A outer s H vs Q E hr h=>let⟨t,h1,h2⟩:=hb f cdv A outer s H vs Q E hr h;⟨t,h1.out,h2⟩),hm,hb'⟩
structure Dk(K:W.Frag)(mg:Str->Option Value)(C:Addr)(x qual:Str)(st:Stmt)(ps:List Str):Prop where
 ex:∃(f:Addr) (fd:FuncData),Fun K "__init__" qual st f fd/\Mk K C f/\mg x=some (.ref C)/\Binds K fd ps []
theorem Dk.mk'{P:Program}{w:World}{K:W.Frag}{mg:Str->Option Value}{base:Heap}{C:Addr}{x qual:Str}{st:Stmt}{N ps:List Str}{k:Nat}{sp:Sp}(d:Dk K mg C x qual st ps)(S:FnScope N ps (defScope st))(len:∀ vs H Q E,sp vs H Q E->vs.length=ps.length)
 (hb:∀(f:Addr) (cdv:Value) (A:Around) (outer:List Env) (s:Shared) (H:Hp) (vs:List V) (Q:VK) (E:XK),Room k (A.deeper (envOfC qual (defScope st) s.heap.objs.size f cdv))->sp vs H Q E ->
  ∃ t,Bx (PSs (cxOf CX0 P w K mg base N qual (defScope st) f cdv A outer s H E).nox (defBody st) t)/\t { nx:=fun _ H'=>Q .non H',rt:=Q } (start N vs) H):Mkr P w K mg base C x (k+1) ps sp:=by
 obtain⟨f,fd,F,hm,hg,hb'⟩:=d.ex;exact⟨f,fd,F.ok S len (fun cdv A outer s H vs Q E hr h=>let⟨t,h1,h2⟩:=hb f cdv A outer s H vs Q E hr h;⟨t,h1.out,h2⟩),hm,hg,hb'⟩
noncomputable abbrev MRow:=List (Int×Int)
noncomputable def kvs(r:MRow):List (Key×V):=r.map fun p=>((Sum.inl p.1:Key),V.int p.2)
noncomputable def rLook(r:MRow)(k:Int):Option Int:=(r.find? fun p=>decide (p.1=k)).map (·.2)
noncomputable def rPut(r:MRow)(k v:Int):MRow:=if(rLook r k).isSome=true then r.map (fun p=>if p.1=k then(p.1,v)else p)else r++[(k,v)]
noncomputable def oV:Option Int->V
 | none=>.non
 | some i=>.int i
noncomputable abbrev ROk(r:MRow):Prop:=(r.map (·.1)).Nodup
theorem rLook_pos{p:Int×Int}{r:MRow}{k:Int}(e:p.1=k):rLook (p::r) k=some p.2:=by simp[rLook,List.find?_cons,e]
theorem rLook_neg{p:Int×Int}{r:MRow}{k:Int}(e:¬ p.1=k):rLook (p::r) k=rLook r k:=by simp[rLook,List.find?_cons,e]
theorem inlE{a b:Int}:((Sum.inl a:Key)=Sum.inl b) ↔ a=b:=⟨Sum.inl.inj,congrArg _⟩
theorem valV_kvs(k:Int):∀ r:MRow,valV (kvs r) (Sum.inl k:Key)=(rLook r k).map V.int
 | []=>rfl
 | p::r=>by
   show valV (((Sum.inl p.1:Key),V.int p.2)::kvs r) (Sum.inl k:Key)=_;by_cases e:p.1=k
   · rw[rLook_pos e,valV_pos (inlE.mpr e)];rfl
   rw[rLook_neg e,valV_neg (fun z=>e (inlE.mp z)),valV_kvs k r]
theorem kvs_any(r:MRow)(k:Int):((kvs r).any fun kv=>decide (kv.1=(Sum.inl k:Key)))=(rLook r k).isSome:=by
 rw[valV_any,valV_kvs];cases rLook r k <;> rfl
theorem putK_kvs(r:MRow)(k v:Int):putK (kvs r) (Sum.inl k:Key) (V.int v)=kvs (rPut r k v):=by
 unfold putK rPut;rw[kvs_any];split
 · unfold kvs
   rw[List.map_map,List.map_map];refine List.map_congr_left fun p _=>?_;show(if(Sum.inl p.1:Key)=Sum.inl k then _ else _)=_;by_cases e:p.1=k
   · rw[if_pos (inlE.mpr e)]
     show _=((Sum.inl (if p.1=k then(p.1,v)else p).1:Key),V.int (if p.1=k then(p.1,v)else p).2);rw[if_pos e]
   rw[if_neg (fun z=>e (inlE.mp z))];show _=((Sum.inl (if p.1=k then(p.1,v)else p).1:Key),V.int (if p.1=k then(p.1,v)else p).2);rw[if_neg e]
 unfold kvs;rw[List.map_append]
 rfl
theorem kvs_len(r:MRow):(kvs r).length=r.length:=List.length_map ..
theorem rLook_none_iff(k:Int):∀{r:MRow},rLook r k=none ↔ ¬ k∈r.map (·.1)
 | []=>by simp[rLook]
 | p::r=>by
   rw[List.map_cons,List.mem_cons];by_cases e:p.1=k
   · rw[rLook_pos e];simp[e]
   rw[rLook_neg e,rLook_none_iff k]
   constructor
   · intro h z
     rcases z with z | z
     · exact e z.symm
     exact h z
   intro h z;exact h (.inr z)
theorem keys_put_old{r:MRow}{k v:Int}(h:(rLook r k).isSome=true):(rPut r k v).map (·.1)=r.map (·.1):=by
 unfold rPut;rw[if_pos h,List.map_map];refine List.map_congr_left fun p _=>?_;show(if p.1=k then(p.1,v)else p).1=p.1;split <;> rfl
theorem rPut_new{r:MRow}{k v:Int}(h:rLook r k=none):rPut r k v=r++[(k,v)]:=by
 unfold rPut;rw[h]
 rfl
theorem rPut_ok{r:MRow}{k v:Int}(h:ROk r):ROk (rPut r k v):=by
 cases e:rLook r k with
 | some x=>rw[ROk,keys_put_old (by rw[e];rfl)];exact h
 | none=>
   rw[ROk,rPut_new e,List.map_append];exact nd_snoc h ((rLook_none_iff k).mp e)
theorem rPut_len{r:MRow}{k v:Int}:(rPut r k v).length=r.length+(if rLook r k=none then 1 else 0):=by
 cases e:rLook r k with
 | some x=>
   unfold rPut;rw[e];simp
 | none=>rw[rPut_new e];simp
noncomputable abbrev MRows:=List MRow
noncomputable def plc(f m:Int)(n:Nat)(k:Int):Nat:=((k*f+m) % 65536 % (n:Int)).toNat
theorem plc_int{f m:Int}{n:Nat}{k:Int}(h:0 < n):((plc f m n k:Nat):Int)=(k*f+m) % 65536 % (n:Int):=by
 unfold plc;rw[Int.toNat_of_nonneg (Int.emod_nonneg _ (by omega))]
theorem plc_lt{f m:Int}{n:Nat}{k:Int}(h:0 < n):plc f m n k < n:=by
 have e:=plc_int (f:=f) (m:=m) (k:=k) h;have:=Int.emod_lt_of_pos ((k*f+m) % 65536) (show(0:Int) < n by omega)
 omega
noncomputable def tot(R:MRows):Nat:=(R.map List.length).sum
noncomputable def sRow(f m:Int)(R:MRows)(k:Int):MRow:=R.getD (plc f m R.length k) []
noncomputable def sLook(f m:Int)(R:MRows)(k:Int):Option Int:=rLook (sRow f m R k) k
noncomputable def sPut(f m:Int)(R:MRows)(k v:Int):MRows:=R.set (plc f m R.length k) (rPut (sRow f m R k) k v)
theorem getD_get{R:MRows}{i:Nat}(h:i < R.length):R[i]?=some (R.getD i []):=by
 rw[List.getD_eq_getElem?_getD,List.getElem?_eq_getElem h]
 rfl
theorem tot_set:∀(R:MRows) (i:Nat) (r:MRow),i < R.length->tot (R.set i r)+(R.getD i []).length=tot R+r.length
 | [],i,r,h=>absurd h (Nat.not_lt_zero _)
 | a::R,0,r,_=>by
   show r.length+(R.map List.length).sum+a.length=a.length+(R.map List.length).sum+r.length;omega
 | a::R,i+1,r,h=>by
   have ih:=tot_set R i r (Nat.lt_of_succ_lt_succ h);have e:(a::R).getD (i+1) []=R.getD i []:=by simp
   rw[e];show a.length+tot (R.set i r)+_=a.length+tot R+r.length;omega
theorem len_le_tot:∀(R:MRows) (i:Nat),(R.getD i []).length<=tot R
 | [],i=>by simp
 | a::R,0=>by
   show a.length<=a.length+(R.map List.length).sum;omega
 | a::R,i+1=>by
   have ih:=len_le_tot R i;have e:(a::R).getD (i+1) []=R.getD i []:=by simp
   rw[e];show _<=a.length+tot R;omega
theorem tot_rep(n:Nat):tot (List.replicate n [])=0:=by
 unfold tot;rw[List.map_replicate];show(List.replicate n 0).sum=0;simp
theorem sPut_len{f m:Int}{R:MRows}{k v:Int}:(sPut f m R k v).length=R.length:=List.length_set ..
theorem sPut_tot{f m:Int}{R:MRows}{k v:Int}(h:0 < R.length):tot (sPut f m R k v)=tot R+(if sLook f m R k=none then 1 else 0):=by
 have:=tot_set R _ (rPut (sRow f m R k) k v) (plc_lt (f:=f) (m:=m) (k:=k) h);rw[rPut_len]at this;unfold sPut sLook;unfold sRow at *;omega
theorem set_ok{R:MRows}{i:Nat}{r:MRow}(ok:∀ r∈R,ROk r)(h:ROk r):∀ q∈R.set i r,ROk q:=fun q hq=>by
 rcases List.mem_or_eq_of_mem_set hq with z | z
 · exact ok q z
 rw[z];exact h
noncomputable def sfl(t L:Addr)(z:Int):List (Str×V):=[("mixer",.ref t),("rows",.ref L),("held",.int z)]
theorem n_mr:¬ (("mixer":Str)="rows"):=by decide +kernel
theorem n_mh:¬ (("mixer":Str)="held"):=by decide +kernel
theorem n_rh:¬ (("rows":Str)="held"):=by decide +kernel
theorem sfl_mk(t L:Addr)(z:Int):putF "held" (.int z) (putF "rows" (.ref L) (putF "mixer" (.ref t) []))=sfl t L z:=by
 show putF "held" (.int z) (if("mixer":Str)="rows" then _ else _)=_;rw[if_neg n_mr];show(if("mixer":Str)="held" then _ else _)=_;rw[if_neg n_mh];show _::(if("rows":Str)="held" then _ else _)=_;rw[if_neg n_rh]
 rfl
theorem sfl_mixer(t L:Addr)(z:Int):(sfl t L z).lookup ("mixer":Str)=some (.ref t):=by rw[← sfl_mk,lookup_putF,if_neg n_mh,lookup_putF,if_neg n_mr,lookup_putF,if_pos rfl]
theorem sfl_rows(t L:Addr)(z:Int):(sfl t L z).lookup ("rows":Str)=some (.ref L):=by rw[← sfl_mk,lookup_putF,if_neg n_rh,lookup_putF,if_pos rfl]
theorem sfl_held(t L:Addr)(z:Int):(sfl t L z).lookup ("held":Str)=some (.int z):=by rw[← sfl_mk,lookup_putF,if_pos rfl]
theorem sfl_put(t L:Addr)(z y:Int):putF "held" (.int y) (sfl t L z)=sfl t L y:=by
 show(if("mixer":Str)="held" then _ else _)=_;rw[if_neg n_mh];show _::(if("rows":Str)="held" then _ else _)=_;rw[if_neg n_rh];show _::_::(if("held":Str)="held" then _ else _)=_;rw[if_pos rfl]
 rfl
structure NoS(x:Str):Prop where
 n1:¬ x="mixer"
 n2:¬ x="rows"
 n3:¬ x="held"
theorem sfl_no(t L:Addr)(z:Int){x:Str}(h:NoS x):(sfl t L z).lookup x=none:=by
 rw[← sfl_mk,lookup_putF,if_neg h.n3,lookup_putF,if_neg h.n2,lookup_putF,if_neg h.n1]
 rfl
structure ShX(C:Addr)(H:Hp)(p:Addr)(f m:Int)(R:MRows)(t L:Addr)(ds:List Addr):Prop where
 ob:∃ dx,H p=some (.ins C dx (sfl t L (tot R)))
 mx:H t=some (.tup [.int f,.int m])
 bm:0<=f/\f<=65535
 rw:H L=some (.lst (ds.map V.ref))
 len:ds.length=R.length
 nd:ds.Nodup
 at_:∀(i:Nat) (d:Addr) (r:MRow),ds[i]?=some d->R[i]?=some r->H d=some (.dK (kvs r))
 ok:∀ r∈R,ROk r
 pos:0 < R.length
 top:R.length<=8192
noncomputable def Sh(C:Addr)(H:Hp)(p:Addr)(f m:Int)(R:MRows)(F:Addr->Prop):Prop:=∃ t L ds,ShX C H p f m R t L ds /\ ∀ b,F b ↔ (b=p∨b=L∨b∈ds)
noncomputable def Fr(F:Addr->Prop)(H H':Hp):Prop:=∀ b o,¬ F b->H b=some o->H' b=some o
theorem Sh.keep{C:Addr}{H H':Hp}{p:Addr}{f m:Int}{R:MRows}{F G:Addr->Prop}(S:Sh C H p f m R F)(k:Fr G H H')(d:∀ b,F b -> ¬ G b)(dt:∀ b xs,H b=some (.tup xs) -> ¬ G b):Sh C H' p f m R F:=by
 obtain⟨t,L,ds,S,hF⟩:=S;have hp:¬ G p:=d p ((hF p).mpr (.inl rfl));have hL:¬ G L:=d L ((hF L).mpr (.inr (.inl rfl)));refine⟨t,L,ds,⟨?_,k _ _ (dt _ _ S.mx) S.mx,S.bm,k _ _ hL S.rw,S.len,S.nd,fun i x r e1 e2=>k _ _ (d x ((hF x).mpr (.inr (.inr (List.mem_of_getElem? e1))))) (S.at_ i x r e1 e2),S.ok,S.pos,S.top⟩,hF⟩;obtain⟨dx,e⟩:=S.ob;exact⟨dx,k _ _ hp e⟩
theorem Sh.same{C:Addr}{H H':Hp}{p:Addr}{f m:Int}{R:MRows}{F:Addr->Prop}(S:Sh C H p f m R F)(k:Same H H'):Sh C H' p f m R F:=
 S.keep (G:=fun _=>False) (fun b o _ e=>k b o e) (fun _ _ z=>z) fun _ _ _ z=>z
noncomputable def PrV(H:Hp)(v:V)(p:Int×Int):Prop:=∃ a,v=.ref a/\H a=some (.tup [.int p.1,.int p.2])
noncomputable abbrev Prs(H:Hp)(xs:List V)(r:MRow):Prop:=Paired (PrV H) xs r
theorem PrV.keep{H H':Hp}{v:V}{p:Int×Int}(h:PrV H v p)(k:∀ a xs,H a=some (.tup xs)->H' a=some (.tup xs)):PrV H' v p:=by
 obtain⟨a,e,h⟩:=h;exact⟨a,e,k a _ h⟩
theorem Prs.keep{H H':Hp}{xs:List V}{r:MRow}(h:Prs H xs r)(k:∀ a xs,H a=some (.tup xs)->H' a=some (.tup xs)):Prs H' xs r:=Paired.mapP h fun _ _ z=>z.keep k
noncomputable def spSPlace(C:Addr):Sp:=fun vs H Q _=>∃(p:Addr) (k f m:Int) (R:MRows) (F:Addr->Prop),vs=[.ref p,.int k]/\Sh C H p f m R F/\Q (.int (plc f m R.length k)) H
noncomputable def spSRowW(C:Addr):Sp:=fun vs H Q _=>∃(p:Addr) (k f m:Int) (R:MRows) (t L:Addr) (ds:List Addr),vs=[.ref p,.int k]/\ShX C H p f m R t L ds /\ ∀ d,ds[plc f m R.length k]?=some d->Q (.ref d) H
noncomputable def spSPut(C:Addr):Sp:=fun vs H Q _=>∃(p:Addr) (k v f m:Int) (R:MRows) (F:Addr->Prop),vs=[.ref p,.int k,.int v]/\Sh C H p f m R F/\tot R<=100000 /\ ∀ H',Sh C H' p f m (sPut f m R k v) F->Fr F H H'->Q (oV (sLook f m R k)) H'
noncomputable def spSMany(C:Addr):Sp:=fun vs H Q _=>∃(p:Addr) (f m:Int) (R:MRows) (F:Addr->Prop),vs=[.ref p]/\Sh C H p f m R F/\Q (.int (tot R)) H
noncomputable def spSSize(C:Addr):Sp:=fun vs H Q _=>∃(p:Addr) (f m:Int) (R:MRows) (F:Addr->Prop),vs=[.ref p]/\Sh C H p f m R F/\Q (.int R.length) H
noncomputable def spSCheck(C:Addr):Sp:=fun vs H Q _=>∃(p:Addr) (i f m:Int) (R:MRows) (F:Addr->Prop),vs=[.ref p,.int i]/\Sh C H p f m R F/\0<=i/\i < R.length/\Q .non H
noncomputable def spSRow(C:Addr):Sp:=fun vs H Q _=>∃(p:Addr) (i:Nat) (f m:Int) (R:MRows) (F:Addr->Prop),vs=[.ref p,.int i]/\Sh C H p f m R F/\i < R.length /\ ∀ l xs H',Same H H'->H l=none->H' l=some (.lst xs)->Prs H' xs (R.getD i [])->Q (.ref l) H'
noncomputable def isSize(n:Nat):Prop:=n∈[4,8,16,32,64,128,256,512,1024,2048,4096]
noncomputable def spSInit(C:Addr):Sp:=fun vs H Q _=>∃(x t dx:Addr) (n:Nat) (f m:Int),vs=[.ref x,.int n,.ref t]/\H x=some (.ins C dx [])/\H t=some (.tup [.int f,.int m])/\(0<=f/\f<=65535)/\isSize n /\
 ∀ H' F,Sh C H' x f m (List.replicate n []) F->(∀ b,F b->b=x∨H b=none)->(∀ b o,b≠x->H b=some o->H' b=some o)->Q .non H'
section
variable{D:Ends}{σ:L2.St}{H:Hp}{Q:VK}{v:V}{K:W.Frag}{C:Addr}{E:XK}
theorem wFld{ta:TE}{f:Str}(h:ta σ H fun x H1=>∃ a C dx fs v,x=.ref a/\H1 a=some (.ins C dx fs)/\Cls K C/\NoAttr K C f/\fs.lookup f=some v/\Q v H1):tFld K ta f σ H Q:=h
theorem wSFld{ta tv:TE}{f:Str}(h:tv σ H fun y H1=>ta σ H1 fun x H2=>∃ a C dx fs,x=.ref a/\H2 a=some (.ins C dx fs)/\Cls K C/\NoAttr K C f/\fs.length < 1000/\D.nx σ (upd H2 a (.ins C dx (putF f y fs)))):sFld K ta tv f D σ H:=h
theorem wMeth{m:Str}{sp:Sp}{ta:TE}{t:TA}(h:ta σ H fun x H1=>∃ a dx fs,x=.ref a/\H1 a=some (.ins C dx fs)/\fs.lookup m=none/\t σ H1 fun vs H2=>sp (x::(vs++[])) H2 Q E):tMeth C m sp [] E ta t σ H Q:=h
theorem wMake{sp:Sp}{t:TA}(h:t σ H fun vs H1=>∀ x dx,H1 x=none->H1 dx=none->dx≠x->sp (.ref x::(vs++[])) (upd (upd H1 dx (.own x)) x (.ins C dx [])) (fun v H2=>v=.non/\Q (.ref x) H2) E):tMake C sp [] E t σ H Q:=h
theorem wS{p:Addr}{f m:Int}{R:MRows}{F:Addr->Prop}{x:Str}{P:Prop}(S:Sh C H p f m R F)(hn:NoS x)(h:P):∃ a dx fs,V.ref p=.ref a/\H a=some (.ins C dx fs)/\fs.lookup x=none/\P:=by
 obtain⟨t,L,ds,S,_⟩:=S;obtain⟨dx,e⟩:=S.ob;exact⟨p,dx,_,rfl,e,sfl_no _ _ _ hn,h⟩
theorem wSPlace{p:Addr}{k f m:Int}{R:MRows}{F:Addr->Prop}(S:Sh C H p f m R F)(q:Q (.int (plc f m R.length k)) H):spSPlace C (V.ref p::([V.int k]++[])) H Q E:=⟨p,k,f,m,R,F,rfl,S,q⟩
theorem wSPut{p:Addr}{k y f m:Int}{R:MRows}{F:Addr->Prop}(S:Sh C H p f m R F)(hl:tot R<=100000)(q:∀ H',Sh C H' p f m (sPut f m R k y) F->Fr F H H'->Q (oV (sLook f m R k)) H'):spSPut C (V.ref p::([V.int k,V.int y]++[])) H Q E:=⟨p,k,y,f,m,R,F,rfl,S,hl,q⟩
theorem wSSize{p:Addr}{f m:Int}{R:MRows}{F:Addr->Prop}(S:Sh C H p f m R F)(q:Q (.int R.length) H):spSSize C (V.ref p::([]++[])) H Q E:=⟨p,f,m,R,F,rfl,S,q⟩
theorem wSRow{p:Addr}{i:Int}{f m:Int}{R:MRows}{F:Addr->Prop}(S:Sh C H p f m R F)(i0:0<=i)(hi:i < R.length)(q:∀ l xs H',Same H H'->H l=none->H' l=some (.lst xs)->Prs H' xs (R.getD i.toNat [])->Q (.ref l) H'):spSRow C (V.ref p::([V.int i]++[])) H Q E:=
 ⟨p,i.toNat,f,m,R,F,by rw[Int.toNat_of_nonneg i0];rfl,S,by omega,q⟩
theorem wShelf{Qf:Addr->Hp->Prop}{t:Addr}{n:Int}{f m:Int}(ht:H t=some (.tup [.int f,.int m]))(bf:0<=f/\f<=65535)(n0:0<=n)(hn:isSize n.toNat)
 (q:∀ p H' F,Sh C H' p f m (List.replicate n.toNat []) F->(∀ b,F b->H b=none)->Same H H'->Qf p H') :
 ∀ x dx,H x=none->H dx=none->dx≠x->spSInit C (V.ref x::([V.int n,V.ref t]++[])) (upd (upd H dx (.own x)) x (.ins C dx [])) (fun v H2=>v=.non/\Qf x H2) E:=fun x dx hx hdx hne=>by
 have s0:Same H (upd (upd H dx (.own x)) x (.ins C dx [])):=(Same.new hdx).trans (Same.new (by rw[upd_ne hne.symm];exact hx))
 refine⟨x,t,dx,n.toNat,f,m,by rw[Int.toNat_of_nonneg n0];rfl,upd_same,s0 _ _ ht,bf,hn,fun H' F S g k=>⟨rfl,q x H' F S (fun b hb=>?_) fun b o e=>k b o (ne_of_none e hx) (s0 b o e)⟩⟩
 rcases g b hb with rfl | z
 · exact hx
 exact s0.free z
end
noncomputable def CN(Pv:Nat->L2.St->Hp->Prop)(n i:Nat)(D:Addr)(σ:L2.St)(y:V)(H4:Hp):Prop:=∃ ys,H4 D=some (.lst ys)/\ys.length < sizeLine /\ ∃ m',m' < n - i/\(m'=n - (i+1)/\i+1<=n/\Pv (i+1) σ (upd H4 D (.lst (ys++[y]))))
noncomputable def CO(Pv:Nat->L2.St->Hp->Prop)(n i:Nat)(σ:L2.St)(H3:Hp):Prop:=∃ m',m' < n - i/\(m'=n - (i+1)/\i+1<=n/\Pv (i+1) σ H3)
theorem CN.mk{Pv:Nat->L2.St->Hp->Prop}{n i:Nat}{D:Addr}{σ:L2.St}{y:V}{H4:Hp}{ys:List V}(hi:i < n)(hD:H4 D=some (.lst ys))(hl:ys.length < sizeLine)(h:Pv (i+1) σ (upd H4 D (.lst (ys++[y])))):CN Pv n i D σ y H4:=
 ⟨ys,hD,hl,n - (i+1),by omega,rfl,hi,h⟩
section
variable{K:W.Frag}{n:Nat}{lo:Int}{a D:Addr}{xs:List V}{σ0:L2.St}{H1:Hp}{Q:VK}{tt:TT}{te:TE}
theorem comp_range{Qf:Hp->Prop}(Pv:Nat->L2.St->Hp->Prop)(h0:Pv 0 σ0 H1)
 (step:∀ i σ' H',i < n->Pv i σ' H'->tt (σ'.set 0 (some (.int (lo+i)))) H' fun ok H3=>if ok=true then te (σ'.set 0 (some (.int (lo+i)))) H3 (fun y H4=>CN Pv n i D (σ'.set 0 (some (.int (lo+i)))) y H4)else CO Pv n i (σ'.set 0 (some (.int (lo+i)))) H3)
 (fin:∀ σ H,Pv n σ H->Qf H) :
 ∃ W:Nat->Nat->L2.St->Hp->Prop,(∃ m,W 0 m σ0 H1) /\ ∀ i m σ' H',W i m σ' H'->((Itr lo n).stop i H'/\Qf H')∨((Itr lo n).go i H' /\ ∀ x H2,(Itr lo n).yld i H' x H2->tt (σ'.set 0 (some x)) H2 fun ok H3=>
   if ok=true then te (σ'.set 0 (some x)) H3 fun y H4=>∃ ys,H4 D=some (.lst ys)/\ys.length < sizeLine /\ ∃ m',m' < m/\W (i+1) m' (σ'.set 0 (some x)) (upd H4 D (.lst (ys++[y])))
   else ∃ m',m' < m/\W (i+1) m' (σ'.set 0 (some x)) H3):=by
 refine⟨fun i m σ H=>m=n - i/\i<=n/\Pv i σ H,⟨n,by omega,Nat.zero_le _,h0⟩,?_⟩
 rintro i m σ' H' ⟨rfl,hi,p⟩;by_cases hlt:i < n
 · refine .inr ⟨hlt,fun x H2 y=>?_⟩
   obtain⟨rfl,rfl⟩:=y;exact step i σ' _ hlt p
 have e:i=n:=by omega
 subst e;exact .inl ⟨Nat.le_refl _,fin _ _ p⟩
theorem comp_rangeU{Qf:Hp->Prop}(Pv:Nat->L2.St->Hp->Prop)(h0:Pv 0 σ0 H1)
 (step:∀ i σ' H',i < n->Pv i σ' H'->te (σ'.set 0 (some (.int (lo+i)))) H' (fun y H4=>CN Pv n i D (σ'.set 0 (some (.int (lo+i)))) y H4))
 (fin:∀ σ H,Pv n σ H->Qf H) :
 ∃ W:Nat->Nat->L2.St->Hp->Prop,(∃ m,W 0 m σ0 H1) /\ ∀ i m σ' H',W i m σ' H'->((Itr lo n).stop i H'/\Qf H')∨((Itr lo n).go i H' /\ ∀ x H2,(Itr lo n).yld i H' x H2 ->
   if true=true then te (σ'.set 0 (some x)) H2 fun y H4=>∃ ys,H4 D=some (.lst ys)/\ys.length < sizeLine /\ ∃ m',m' < m/\W (i+1) m' (σ'.set 0 (some x)) (upd H4 D (.lst (ys++[y])))
   else ∃ m',m' < m/\W (i+1) m' (σ'.set 0 (some x)) H2):=
 comp_range (tt:=fun _ H Q=>Q true H) Pv h0 (fun i σ' H' hi p=>iteT (step i σ' H' hi p)) fin
theorem comp_list{Qf:Hp->Prop}(Pv:Nat->L2.St->Hp->Prop)(h0:Pv 0 σ0 H1)(hl:∀ i σ H,i<=xs.length->Pv i σ H->SqL K H a xs)
 (step:∀ i x σ' H',xs[i]?=some x->i < xs.length->Pv i σ' H'->tt (σ'.set 0 (some x)) H' fun ok H3=>if ok=true then te (σ'.set 0 (some x)) H3 (fun y H4=>CN Pv xs.length i D (σ'.set 0 (some x)) y H4)else CO Pv xs.length i (σ'.set 0 (some x)) H3)
 (fin:∀ σ H,Pv xs.length σ H->Qf H) :
 ∃ W:Nat->Nat->L2.St->Hp->Prop,(∃ m,W 0 m σ0 H1) /\ ∀ i m σ' H',W i m σ' H'->((Itl K a).stop i H'/\Qf H')∨((Itl K a).go i H' /\ ∀ x H2,(Itl K a).yld i H' x H2->tt (σ'.set 0 (some x)) H2 fun ok H3=>
   if ok=true then te (σ'.set 0 (some x)) H3 fun y H4=>∃ ys,H4 D=some (.lst ys)/\ys.length < sizeLine /\ ∃ m',m' < m/\W (i+1) m' (σ'.set 0 (some x)) (upd H4 D (.lst (ys++[y])))
   else ∃ m',m' < m/\W (i+1) m' (σ'.set 0 (some x)) H3):=by
 refine⟨fun i m σ H=>m=xs.length - i/\i<=xs.length/\Pv i σ H,⟨xs.length,by omega,Nat.zero_le _,h0⟩,?_⟩
 rintro i m σ' H' ⟨rfl,hi,p⟩;have q:=hl i σ' H' hi p;by_cases hlt:i < xs.length
 · refine .inr ⟨⟨xs,xs[i],q,by simp[hlt]⟩,fun x H2 y=>?_⟩
   obtain⟨rfl,y⟩:=y;exact step i x σ' _ (y xs q) hlt p
 have e:i=xs.length:=by omega
 subst e;exact .inl ⟨⟨xs,q,Nat.le_refl _⟩,fin _ _ p⟩
theorem comp_listU{Qf:Hp->Prop}(Pv:Nat->L2.St->Hp->Prop)(h0:Pv 0 σ0 H1)(hl:∀ i σ H,i<=xs.length->Pv i σ H->SqL K H a xs)
 (step:∀ i x σ' H',xs[i]?=some x->i < xs.length->Pv i σ' H'->te (σ'.set 0 (some x)) H' (fun y H4=>CN Pv xs.length i D (σ'.set 0 (some x)) y H4))
 (fin:∀ σ H,Pv xs.length σ H->Qf H) :
 ∃ W:Nat->Nat->L2.St->Hp->Prop,(∃ m,W 0 m σ0 H1) /\ ∀ i m σ' H',W i m σ' H'->((Itl K a).stop i H'/\Qf H')∨((Itl K a).go i H' /\ ∀ x H2,(Itl K a).yld i H' x H2 ->
   if true=true then te (σ'.set 0 (some x)) H2 fun y H4=>∃ ys,H4 D=some (.lst ys)/\ys.length < sizeLine /\ ∃ m',m' < m/\W (i+1) m' (σ'.set 0 (some x)) (upd H4 D (.lst (ys++[y])))
   else ∃ m',m' < m/\W (i+1) m' (σ'.set 0 (some x)) H2):=
 comp_list (tt:=fun _ H Q=>Q true H) Pv h0 hl (fun i x σ' H' e hi p=>iteT (step i x σ' H' e hi p)) fin
end
section
variable{C:Addr}{H H':Hp}{p:Addr}{f m:Int}{R:MRows}{t L:Addr}{ds:List Addr}
theorem ShX.place{C:Addr}{H:Hp}(X:ShX C H p f m R t L ds)(k:Int):∃ d,ds[plc f m R.length k]?=some d/\H d=some (.dK (kvs (sRow f m R k))):=by
 have lt:=plc_lt (f:=f) (m:=m) (k:=k) X.pos;have lt':plc f m R.length k < ds.length:=by rw[X.len];exact lt
 exact⟨ds[plc f m R.length k],List.getElem?_eq_getElem lt',X.at_ _ _ _ (List.getElem?_eq_getElem lt') (getD_get lt)⟩
theorem ShX.set{i:Nat}{d:Addr}{r:MRow}(X:ShX C H p f m R t L ds)(hd:ds[i]?=some d)(ok:ROk r)(h1:∃ dx,H' p=some (.ins C dx (sfl t L (tot (R.set i r)))))(h2:H' d=some (.dK (kvs r)))
 (h3:∀ b o,b≠p->b≠d->H b=some o->H' b=some o):ShX C H' p f m (R.set i r) t L ds:=by
 have hi:i < R.length:=by rw[← X.len];exact(List.getElem?_eq_some_iff.mp hd).1
 have hd0:=X.at_ i d _ hd (getD_get hi);obtain⟨dx,hp⟩:=X.ob;refine⟨h1,h3 _ _ (ne_of X.mx hp (by intro z;cases z)) (ne_of X.mx hd0 (by intro z;cases z)) X.mx,X.bm,h3 _ _ (ne_of X.rw hp (by intro z;cases z)) (ne_of X.rw hd0 (by intro z;cases z)) X.rw,by rw[List.length_set];exact X.len,X.nd,fun j x q e1 e2=>?_,set_ok X.ok ok,by rw[List.length_set];exact X.pos,by rw[List.length_set];exact X.top⟩
 by_cases e:i=j
 · subst e
   rw[hd]at e1;cases e1;rw[List.getElem?_set_self hi]at e2;cases e2;exact h2
 rw[List.getElem?_set_ne e]at e2;have hx:=X.at_ j x q e1 e2;refine h3 _ _ (ne_of hx hp (by intro z;cases z)) (fun z=>e ?_) hx
 subst z;have l1:=(List.getElem?_eq_some_iff.mp hd).1;exact(List.getElem?_inj l1 X.nd).mp (hd.trans e1.symm)
end
theorem prs_of{H:Hp}:∀{as:List Addr}{r:MRow},as.length=r.length->(∀(j:Nat) (a:Addr),as[j]?=some a -> ∃ k x,(kvs r)[j]?=some (k,x)/\H a=some (.tup [kV k,x]))->Prs H (as.map V.ref) r
 | [],[],_,_=>.nil
 | a::as,p::r,hl,h=>by
   refine .cons ⟨a,rfl,?_⟩ (prs_of (Nat.succ.inj hl) fun j b e=>h (j+1) b e);obtain⟨k,x,e,z⟩:=h 0 a rfl;cases e;exact z
 | [],_::_,hl,_=>by cases hl
 | _::_,[],hl,_=>by cases hl
noncomputable def spWhole:Sp:=fun vs H Q _=>∃ n:Int,vs=[.int n]/\Q (.bl true) H
noncomputable def spIsSize:Sp:=fun vs H Q _=>∃ n:Nat,vs=[.int n]/\isSize n/\Q (.bl true) H
theorem inSizes{n:Nat}(h:isSize n):inV (V.int n) [.int 4,.int 8,.int 16,.int 32,.int 64,.int 128,.int 256,.int 512,.int 1024,.int 2048,.int 4096]=true:=by
 unfold isSize at h;simp only[List.mem_cons,List.not_mem_nil,or_false]at h;rcases h with rfl | rfl | rfl | rfl | rfl | rfl | rfl | rfl | rfl | rfl | rfl <;> decide
theorem isSize.bounds{n:Nat}(h:isSize n):4<=n/\n<=4096:=by
 unfold isSize at h;simp only[List.mem_cons,List.not_mem_nil,or_false]at h;rcases h with rfl | rfl | rfl | rfl | rfl | rfl | rfl | rfl | rfl | rfl | rfl <;> decide
theorem oV_getD{r:MRow}{k:Int}:(valV (kvs r) (Sum.inl k:Key)).getD V.non=oV (rLook r k):=by
 rw[valV_kvs];cases rLook r k <;> rfl
end SW
namespace SW.B
open PySem PySem.Spec PyProof.Rows L2 SW
theorem cmpI{X:Cx}{a b:Expr}{ta tb:TE}{pos:Pos}{op:CmpOp}{r:R2}(ho:OpR X (compareOp op) r)(ha:Bx (PE X a ta))(hb:Bx (PE X b tb))(hm:behindInMarks op b=false:=by first | rfl | with_unfolding_all rfl):Bx (PE X (.Compare a [op] [b] pos) (tOp r ta tb)):=⟨pe_cmpR ho ha.out hb.out hm⟩
end SW.B
namespace SW
open PySem PySem.Spec PyProof.Rows L2
theorem putF_len(f:Str)(v:V):∀ fs:List (Str×V),(putF f v fs).length<=fs.length+1
 | []=>Nat.le_refl _
 | (k,x)::r=>by
   show(if k=f then(k,v)::r else(k,x)::putF f v r).length<=_;split
   · show r.length+1<=r.length+1+1;omega
   have:=putF_len f v r;show(putF f v r).length+1<=r.length+1+1;omega
end SW
namespace SW
open PySem PySem.Spec PyProof.Rows L2
section
variable{D:Ends}{σ:L2.St}{H:Hp}{Q:VK}{K:W.Frag}
theorem wDGet1{td ty:TE}(h:td σ H fun x H1=>∃ a,x=.ref a/\IsD H1 a/\ty σ H1 fun y H2=>∃ o,DGet H2 a y o/\Q (o.getD .non) H2):tDGet1 td ty σ H Q:=h
theorem wItems{td:TE}(h:td σ H fun x H1=>∃ a kvs,x=.ref a/\H1 a=some (.dK kvs) /\ ∀ v,H1 v=none->Q (.ref v) (upd H1 v (ViewO v a))):tItems td σ H Q:=h
theorem wDPut{td ty tv:TE}(h:tv σ H fun v H1=>td σ H1 fun x H2=>ty σ H2 fun y H3=>∃ a H4,x=.ref a/\DPut H3 a y v H4/\D.nx σ H4):sDPut td ty tv D σ H:=h
theorem wFAug{ta tv:TE}{rd:V->V->Hp->VK->Prop}{f:Str}(h:ta σ H fun x H1=>∃ a C dx fs v,x=.ref a/\H1 a=some (.ins C dx fs)/\Cls K C/\NoAttr K C f/\fs.lookup f=some v /\
 tv σ H1 fun y H2=>rd v y H2 fun z H3=>∃ dx' fs',H3 a=some (.ins C dx' fs')/\fs'.length < 1000/\D.nx σ (upd H3 a (.ins C dx' (putF f z fs')))):sFldAug K ta tv rd f D σ H:=h
theorem wSl{r:V->Option Int->Option Int->Hp->VK->Prop}{te:TE}{tl th:TO}(h:te σ H fun x H1=>tl σ H1 fun l H2=>th σ H2 fun u H3=>r x l u H3 Q):tSl r te tl th σ H Q:=h
theorem wNoPart{Q:Option Int->Hp->Prop}(h:Q none H):tNoPart σ H Q:=h
theorem wPart{t:TE}{Q:Option Int->Hp->Prop}(h:t σ H fun x H1=>∃ i,x=.int i/\Q (some i) H1):tPart t σ H Q:=h
end
section
variable{X:Cx}{pins:List (Addr×Obj)}{σ:L2.St}{H:Hp}{s:Shared}{h':Heap}
end
section
variable{X:Cx}{elts:List Expr}{k:Nat}{tp:Pos}
end
namespace B
end B
section
variable{prog:Program}{w:World}{A:Around}{E:Value->Shared->Prop}{s:Shared}
set_option maxRecDepth 100000 in
end
section
variable{X:Cx}{o e:Expr}{to te:TE}{pos p2:Pos}{hi:Option Expr}{th:TO}
end
namespace B
end B
theorem Prs.dat{K:W.Frag}{H:Hp}:∀{xs:List V}{r:MRow},Prs H xs r->DatVs K H xs (r.map fun p=>.tuple [.int p.1,.int p.2])
 | _,_,.nil=>.nil
 | _,_,.cons ⟨a,e,h⟩ t=>by
   subst e;exact .cons (.tup (SqT.of h) (.cons (.int _) (.cons (.int _) .nil))) (Prs.dat t)
noncomputable def spWorth:Sp:=fun vs H Q _=>∃ p:Addr,vs=[.ref p]/\Row H p /\ ∀ v H',-1000000000<=v->v<=1000000000->Row H' p->KeepBut p H H'->Q (.int v) H'
theorem wWorth{p:Addr}{H:Hp}{Q:VK}{E:XK}(hp:Row H p)(k:∀ v H',-1000000000<=v->v<=1000000000->Row H' p->KeepBut p H H'->Q (.int v) H'):spWorth ([.ref p]++[]) H Q E:=⟨p,rfl,hp,k⟩
namespace B
end B
end SW
namespace SW
open PySem PySem.Spec PyProof.Rows L2
section
variable{X:Cx}
end
end SW
namespace SW
open PySem PySem.Spec PyProof.Rows L2
end SW
namespace SW
open PySem PySem.Spec PyProof.Rows L2
end SW
namespace SW
open PySem PySem.Spec PyProof.Rows L2
section
variable(t:Addr)(pc:Int)(el:V)(mv:Int)(n:Addr)(tc:Int)
end
section
variable{CS CT:Addr}{H H':Hp}{p:Addr}{f m:Int}{pc:Nat}{M:MT}{tc:Int}{t n:Addr}{v:V}{FN FE F G:Addr->Prop}
end
section
variable{CS CT:Addr}{H:Hp}{Q:VK}{E:XK}{p:Addr}{k y f m:Int}{pc:Nat}{M:MT}{tc:Int}{F:Addr->Prop}
end
section
variable{CS CT:Addr}{H H':Hp}{p:Addr}{f m:Int}{pc:Nat}{M:MT}{tc:Int}{t n:Addr}{v:V}{FN FE F G:Addr->Prop}
end
end SW
namespace SW
open PySem PySem.Spec PyProof.Rows L2
namespace B
end B
end SW
namespace SW
open PySem PySem.Spec PyProof.Rows L2
end SW
namespace SW
open PySem PySem.Spec PyProof.Rows L2
section
variable{X:Cx}{scope:Scope}{cl:List (Str×Addr)}{os:List Str}{js:List Nat}{N':List Str}{pins:List (Addr×Obj)}{σ:L2.St}{H:Hp}{s:Shared}{fp:List Addr}
end
section
variable{X:Cx}{scope:Scope}{cl:List (Str×Addr)}{os:List Str}{js:List Nat}{N':List Str}{elt iter:Expr}{ifs:List Expr}{tgt:Expr}{pos:Pos}{wi:TI}{gt:TG}{tt:TT}{te:TE}
end
namespace B
section
variable{X:Cx}{scope:Scope}{cl:List (Str×Addr)}{tgt:Expr}{N':List Str}{elt iter c:Expr}{pos:Pos}{wi:TI}{gt:TG}{te:TE}{tc:TT}{os:List Str}
end
end B
end SW
namespace SW
open PySem PySem.Spec PyProof.Rows L2
namespace B
end B
section
variable{prog:Program}{w:World}{A:Around}{E:Value->Shared->Prop}{s:Shared}
end
section
variable{X:Cx}{elts:List Expr}{k:Nat}{tp:Pos}
end
namespace B
end B
theorem b_str:bootBuiltins "str"=some (.type "str"):=by decide +kernel
theorem paired_snoc{α β:Type}{F:α -> β -> Prop}{x:α}{y:β}:∀{xs:List α}{ys:List β},Paired F xs ys->F x y->Paired F (xs++[x]) (ys++[y])
 | _,_,.nil,h=>.cons h .nil
 | _,_,.cons a t,h=>.cons a (paired_snoc t h)
section
variable{CS CT:Addr}{H:Hp}{Q:VK}{E:XK}{p:Addr}{f m:Int}{pc:Nat}{M:MT}{tc:Int}{F:Addr->Prop}
end
section
variable{CS CT:Addr}{H:Hp}{Q:VK}{E:XK}{f m:Int}
end
section
variable{CS CT:Addr}{H H':Hp}{p p2:Addr}{f m f2 m2:Int}{pc pc2:Nat}{M M2:MT}{tc tc2:Int}{F F' G:Addr->Prop}
end
theorem wSeqC{D:Ends}{σ:L2.St}{H:Hp}{t u:TS}(h:∀ N:L2.St->Hp->Prop,N=u D->t { D with nx:=N } σ H):tSeq t u D σ H:=h _ rfl
theorem wGo{N N':L2.St->Hp->Prop}{σ:L2.St}{H:Hp}(e:N=N')(h:N' σ H):N σ H:=e ▸ h
@[elab_as_elim] theorem len0{α:Type}{P:List α -> Prop}(us:List α)(hl:us.length=0)(h:Unit->P []):P us:=by
  cases us with
  | nil=>exact h ()
  | cons a l=>cases hl
@[elab_as_elim] theorem len1{α:Type}{P:List α -> Prop}(us:List α)(hl:us.length=1)(h:∀ a,P [a]):P us:=by
  cases us with
  | nil=>cases hl
  | cons a l=>exact len0 (P:=fun l=>P (a::l)) l (Nat.succ.inj hl) fun _=>h a
@[elab_as_elim] theorem len2{α:Type}{P:List α -> Prop}(us:List α)(hl:us.length=2)(h:∀ a b,P [a,b]):P us:=by
  cases us with
  | nil=>cases hl
  | cons a l=>exact len1 (P:=fun l=>P (a::l)) l (Nat.succ.inj hl) fun b=>h a b
@[elab_as_elim] theorem len3{α:Type}{P:List α -> Prop}(us:List α)(hl:us.length=3)(h:∀ a b c,P [a,b,c]):P us:=by
  cases us with
  | nil=>cases hl
  | cons a l=>exact len2 (P:=fun l=>P (a::l)) l (Nat.succ.inj hl) fun b c=>h a b c
@[elab_as_elim] theorem len4{α:Type}{P:List α -> Prop}(us:List α)(hl:us.length=4)(h:∀ a b c d,P [a,b,c,d]):P us:=by
  cases us with
  | nil=>cases hl
  | cons a l=>exact len3 (P:=fun l=>P (a::l)) l (Nat.succ.inj hl) fun b c d=>h a b c d
@[elab_as_elim] theorem len5{α:Type}{P:List α -> Prop}(us:List α)(hl:us.length=5)(h:∀ a b c d e,P [a,b,c,d,e]):P us:=by
  cases us with
  | nil=>cases hl
  | cons a l=>exact len4 (P:=fun l=>P (a::l)) l (Nat.succ.inj hl) fun b c d e=>h a b c d e
theorem walkX{q:Program}{loose:List Str}{XP:(Str->Option Value)->Heap->Prop}{K:Params->W.Frag}{as:List Addr}{n t:Nat}{r:W.RowW}{d:DefRec}{kwd:List (Str×Expr)}{run:Value->List Value->Sem Value}
 (e:∀ P,as=(K P).map (·.1)) (h:W.WalkO q loose XP (W.InK K) r d kwd run):W.WalkX q loose XP (W.X.obsZ as) (W.X.valZ K n t) r d kwd run:=
 fun w s₀ s₁ mg mb G y a o pm cd doc dV kV ho hd hcd hD hmg hg args vals as' L hpre=>h w s₀ s₁ mg mb G (W.InK.keeps w _ _ (W.X.z_facts e y).2.1 (W.Laid.keeps L)) a o pm cd doc dV kV ho hd hcd hD hmg hg args vals as' hpre
noncomputable def Cut(M:L2.St->Hp->Prop)(G:(L2.St->Hp->Prop)->Prop):Prop:=∀ N,N=M->G N
theorem forListC{K:PySem.W.Frag}{a:Addr}{xs:List V}{g:TG}{tb:TS}{D:Ends}{σ:L2.St}{H:Hp}(Pv:Nat->L2.St->Hp->Prop)(h0:Pv 0 σ H)(hl:∀ i σ H,i<=xs.length->Pv i σ H->SqL K H a xs)
 (hs:∀ i x σ H,xs[i]?=some x->Pv i σ H->Cut (Pv (i+1)) fun N=>g x σ H fun σ2 H2=>tb { D with nx:=N,ct:=N,bk:=D.nx } σ2 H2) (hd:∀ σ H,Pv xs.length σ H->D.nx σ H) :
 ∃ W:Nat->Nat->L2.St->Hp->Prop,(∃ m,W 0 m σ H) /\ ∀ i m σ H,W i m σ H ->
   ((Itl K a).stop i H/\D.nx σ H)∨((Itl K a).go i H /\ ∃ N:L2.St->Hp->Prop,(∀ σ' H',N σ' H' -> ∃ m',m' < m/\W (i+1) m' σ' H') /\ ∀ x H',(Itl K a).yld i H x H'->g x σ H' fun σ2 H2=>tb { D with nx:=N,ct:=N,bk:=D.nx } σ2 H2):=
 for_list Pv h0 hl (fun i x σ H e p=>hs i x σ H e p _ rfl) hd
theorem forRangeC{lo:Int}{n:Nat}{g:TG}{tb:TS}{D:Ends}{σ:L2.St}{H:Hp}(Pv:Nat->L2.St->Hp->Prop)(h0:Pv 0 σ H)
 (hs:∀ i σ H,i < n->Pv i σ H->Cut (Pv (i+1)) fun N=>g (.int (lo+i)) σ H fun σ2 H2=>tb { D with nx:=N,ct:=N,bk:=D.nx } σ2 H2) (hd:∀ σ H,Pv n σ H->D.nx σ H) :
 ∃ W:Nat->Nat->L2.St->Hp->Prop,(∃ m,W 0 m σ H) /\ ∀ i m σ H,W i m σ H ->
   ((Itr lo n).stop i H/\D.nx σ H)∨((Itr lo n).go i H /\ ∃ N:L2.St->Hp->Prop,(∀ σ' H',N σ' H' -> ∃ m',m' < m/\W (i+1) m' σ' H') /\ ∀ x H',(Itr lo n).yld i H x H'->g x σ H' fun σ2 H2=>tb { D with nx:=N,ct:=N,bk:=D.nx } σ2 H2):=
 for_range Pv h0 (fun i σ H e p=>hs i σ H e p _ rfl) hd
section
variable{K:W.Frag}{H:Hp}{p C dx:Addr}{fs:List (Str×V)}{v:V}{f:Str}
theorem iFld{R:Addr->Addr->V->Prop}(hp:H p=some (.ins C dx fs))(hc:Cls K C)(hn:NoAttr K C f)(hl:fs.lookup f=some v)(h:R p C v):∃ a C dx fs v,V.ref p=.ref a/\H a=some (.ins C dx fs)/\Cls K C/\NoAttr K C f/\fs.lookup f=some v/\R a C v:=⟨p,C,dx,fs,v,rfl,hp,hc,hn,hl,h⟩
theorem iSFld{R:Addr->Addr->Addr->List (Str×V)->Prop}(hp:H p=some (.ins C dx fs))(hc:Cls K C)(hn:NoAttr K C f)(hl:fs.length < 1000)(h:R p C dx fs):∃ a C dx fs,V.ref p=.ref a/\H a=some (.ins C dx fs)/\Cls K C/\NoAttr K C f/\fs.length < 1000/\R a C dx fs:=⟨p,C,dx,fs,rfl,hp,hc,hn,hl,h⟩
theorem iIsi{x:V}{T:String}{t:Value}{b:Bool}{R:Bool->Prop}(ty:TyOf K H x t)(e:W.kitOne K t (.type T)=some b)(h:R b):∃ x' T' t' b',[x,V.ty T]=[x',V.ty T']/\TyOf K H x' t'/\W.kitOne K t' (.type T')=some b'/\R b':=⟨x,T,t,b,rfl,ty,e,h⟩
theorem iLen{l:Addr}{ys:List V}{R:List V->Prop}(h1:SqL K H l ys∨SqT K H l ys)(h:R ys):∃ p ys,[V.ref l]=[V.ref p]/\(SqL K H p ys∨SqT K H p ys)/\R ys:=⟨l,ys,rfl,h1,h⟩
end
section
variable{CS CT:Addr}{H:Hp}{Q:VK}{E:XK}{p:Addr}{k f m:Int}{pc:Nat}{M:MT}{tc:Int}{F:Addr->Prop}
theorem wSRowW{R:MRows}{t L:Addr}{ds:List Addr}(X:ShX CS H p f m R t L ds)(q:∀ d,ds[plc f m R.length k]?=some d->Q (.ref d) H):spSRowW CS (V.ref p::([V.int k]++[])) H Q E:=⟨p,k,f,m,R,t,L,ds,rfl,X,q⟩
end
theorem fs{N P:List Str}{sc:Scope}(a:sc.kind=.function:=by rfl)(b:sc.isCoroutine=false:=by rfl)(c:sc.isGenerator=false:=by rfl)(d:N.Nodup:=by decide +kernel)(e:N.take P.length=P:=by rfl)(f:∀ x∈P,sc.names.lookup x=some .local∨sc.names.lookup x=some .cell:=by decide +kernel)(h:∀ y∈sc.names,y.2 ≠ .free:=by decide +kernel):FnScope N P sc:=⟨a,b,c,d,e,f,h⟩
theorem bd1{K:W.Frag}{x qual p0:Str}{st:Stmt}{f:Addr}{fd:FuncData}(F:Fun K x qual st f fd)(h:∀(kV doc pm:Value) (an:Option Addr) (cdv ct:Value) (a0:Value),bindArgs (W.fnOf x qual (defArgs st) (defBody st) (defScope st) .none kV doc pm an cdv ct) ⟨[a0],[]⟩=pure ([(p0,a0)]):=by intros;rfl):Binds K fd [p0] []:=F.binds fun _ _ _ _ _ _ us hl=>len1 us hl fun a0=>h _ _ _ _ _ _ a0
theorem bd2{K:W.Frag}{x qual p0 p1:Str}{st:Stmt}{f:Addr}{fd:FuncData}(F:Fun K x qual st f fd)(h:∀(kV doc pm:Value) (an:Option Addr) (cdv ct:Value) (a0 a1:Value),bindArgs (W.fnOf x qual (defArgs st) (defBody st) (defScope st) .none kV doc pm an cdv ct) ⟨[a0,a1],[]⟩=pure ([(p0,a0),(p1,a1)]):=by intros;rfl):Binds K fd [p0,p1] []:=F.binds fun _ _ _ _ _ _ us hl=>len2 us hl fun a0 a1=>h _ _ _ _ _ _ a0 a1
theorem bd3{K:W.Frag}{x qual p0 p1 p2:Str}{st:Stmt}{f:Addr}{fd:FuncData}(F:Fun K x qual st f fd)(h:∀(kV doc pm:Value) (an:Option Addr) (cdv ct:Value) (a0 a1 a2:Value),bindArgs (W.fnOf x qual (defArgs st) (defBody st) (defScope st) .none kV doc pm an cdv ct) ⟨[a0,a1,a2],[]⟩=pure ([(p0,a0),(p1,a1),(p2,a2)]):=by intros;rfl):Binds K fd [p0,p1,p2] []:=F.binds fun _ _ _ _ _ _ us hl=>len3 us hl fun a0 a1 a2=>h _ _ _ _ _ _ a0 a1 a2
section
variable{X:Cx}{elts:List Expr}{k:Nat}{tp:Pos}
end
namespace B
end B
section
variable{prog:Program}{w:World}{A:Around}{E:Value->Shared->Prop}{s:Shared}{T:String}{r d:Addr}{n:Nat}{P:Nat->Value->Prop}{OK:Heap->Prop}
end
section
variable{X:Cx}{e st:Expr}{te ts:TE}{pos p2:Pos}
end
section
variable{K:W.Frag}{a D:Addr}{xs:List V}{σ0:L2.St}{H1:Hp}{gt:TG}{tt:TT}{te:TE}
end
section
variable{X:Cx}
end
end SW
namespace SW
open PySem PySem.Spec PyProof.Rows L2
end SW
namespace SW
open PySem PySem.Spec PyProof.Rows L2
namespace B
end B
section
variable{H:Hp}{Q:VK}{E:XK}{p:Addr}
end
section
variable{C:Addr}{H:Hp}{Q:VK}{E:XK}{p wa oa:Addr}{L:LS}
end
section
variable{C:Addr}{H H':Hp}{p:Addr}{L:LS}{wa oa:Addr}
end
section
variable{X:Cx}{scope:Scope}{cl:List (Str×Addr)}{os:List Str}{js:List Nat}{N':List Str}{elt tgt iter:Expr}{ifs:List Expr}{pos:Pos}{wi:TI}{gt:TG}{tt:TT}{te:TE}
end
namespace B
end B
section
variable{X:Cx}{pins:List (Addr×Obj)}{σ:L2.St}{H:Hp}{s:Shared}
end
section
variable{a D:Addr}{o:Obj}{kvs:List (Key×V)}{σ0:L2.St}{H1:Hp}{tt:TT}{te:TE}
end
section
variable{K:W.Frag}{H:Hp}
end
namespace B
end B
namespace B
end B
end SW
namespace SW
open PySem PySem.Spec PyProof.Rows L2
section
variable{X:Cx}{elts:List Expr}{k:Nat}{tp:Pos}
end
end SW
namespace SW
open PySem PySem.Spec PyProof.Rows L2
section
variable{prog:Program}{w:World}{A:Around}{E:Value->Shared->Prop}{s:Shared}
end
section
variable{X:Cx}
end
section
variable{X:Cx}
end
section
variable{X:Cx}
end
section
variable{X:Cx}
end
instance (n:Nat):Decidable (isSize n):=inferInstanceAs (Decidable (n∈[4,8,16,32,64,128,256,512,1024,2048,4096]))
namespace B
end B
mutual
inductive Any(H:Hp):V->PyData->Prop
 | non:Any H .non .none
 | bl (b:Bool):Any H (.bl b) (.bool b)
 | int (i:Int):Any H (.int i) (.int i)
 | str (x:PySem.Str):Any H (.str x) (.str x)
 | lst {a:Addr}{xs:List V}{ds:List PyData} (h:H a=some (.lst xs)) (r:Anys H xs ds):Any H (.ref a) (.list ds)
 | tup {a:Addr}{xs:List V}{ds:List PyData} (h:H a=some (.tup xs)) (r:Anys H xs ds):Any H (.ref a) (.tuple ds)
 | dic {a:Addr} (h:H a=some (.dK [])):Any H (.ref a) (.dict [])
inductive Anys(H:Hp):List V->List PyData->Prop
 | nil:Anys H [] []
 | cons {x:V}{xs:List V}{d:PyData}{ds:List PyData} (h:Any H x d) (r:Anys H xs ds):Anys H (x::xs) (d::ds)
end
mutual
theorem Any.same{H H':Hp}(s:Same H H'):∀{v:V}{d:PyData},Any H v d->Any H' v d
 | _,_,.non=>.non
 | _,_,.bl b=>.bl b
 | _,_,.int i=>.int i
 | _,_,.str x=>.str x
 | _,_,.lst h r=>.lst (s _ _ h) (Anys.same s r)
 | _,_,.tup h r=>.tup (s _ _ h) (Anys.same s r)
 | _,_,.dic h=>.dic (s _ _ h)
theorem Anys.same{H H':Hp}(s:Same H H'):∀{xs:List V}{ds:List PyData},Anys H xs ds->Anys H' xs ds
 | _,_,.nil=>.nil
 | _,_,.cons h r=>.cons (Any.same s h) (Anys.same s r)
end
theorem Anys.get{H:Hp}:∀{xs:List V}{ds:List PyData}{i:Nat}{x:V},Anys H xs ds->xs[i]?=some x -> ∃ d,ds[i]?=some d/\Any H x d
 | _,_,0,_,.cons h r,e=>⟨_,rfl,by cases e;exact h⟩
 | _,_,i+1,_,.cons h r,e=>Anys.get (i:=i) r e
noncomputable def less(p:Addr)(H:Hp):Hp:=fun a=>if a=p then none else H a
theorem less_le(p:Addr)(H:Hp):Same (less p H) H:=fun a o e=>by
 unfold less at e;by_cases c:a=p
 · rw[if_pos c]at e;cases e
 rw[if_neg c]at e;exact e
theorem less_keep{p:Addr}{H H':Hp}(k:KeepBut p H H'):Same (less p H) (less p H'):=fun a o e=>by
 unfold less at e ⊢;by_cases c:a=p
 · rw[if_pos c]at e;cases e
 rw[if_neg c]at e;rw[if_neg c];exact k _ _ c e
noncomputable def isWhD:PyData->Bool
 | .int _=>true
 | _=>false
noncomputable def tyD:PyData->String
 | .none=>"NoneType"
 | .bool _=>"bool"
 | .int _=>"int"
 | .str _=>"str"
 | .list _=>"list"
 | .tuple _=>"tuple"
 | .dict _=>"dict"
noncomputable def isIntD:PyData->Bool
 | .int _=>true
 | .bool _=>true
 | _=>false
noncomputable def isBoolD:PyData->Bool
 | .bool _=>true
 | _=>false
theorem Any.ty{K:W.Frag}{H:Hp}{v:V}{d:PyData}(h:Any H v d):TyOf K H v (.type (tyD d)):=by
 cases h with
 | non=>exact .non
 | bl b=>exact .bl b
 | int i=>exact .int i
 | str x=>exact .str x
 | lst h r=>exact .lst h
 | tup h r=>exact .tup h
 | dic h=>exact .dK h
theorem isi_d_int{K:W.Frag}(d:PyData):W.kitOne K (.type (tyD d)) (.type "int")=some (isIntD d):=by
 cases d with
 | none=>show W.kitOne [] (.type "NoneType") (.type "int")=some false;decide +kernel
 | bool b=>show W.kitOne [] (.type "bool") (.type "int")=some true;decide +kernel
 | int i=>show W.kitOne [] (.type "int") (.type "int")=some true;decide +kernel
 | str x=>show W.kitOne [] (.type "str") (.type "int")=some false;decide +kernel
 | list x=>show W.kitOne [] (.type "list") (.type "int")=some false;decide +kernel
 | tuple x=>show W.kitOne [] (.type "tuple") (.type "int")=some false;decide +kernel
 | dict x=>show W.kitOne [] (.type "dict") (.type "int")=some false;decide +kernel
theorem isi_d_bool{K:W.Frag}(d:PyData):W.kitOne K (.type (tyD d)) (.type "bool")=some (isBoolD d):=by
 cases d with
 | none=>show W.kitOne [] (.type "NoneType") (.type "bool")=some false;decide +kernel
 | bool b=>show W.kitOne [] (.type "bool") (.type "bool")=some true;decide +kernel
 | int i=>show W.kitOne [] (.type "int") (.type "bool")=some false;decide +kernel
 | str x=>show W.kitOne [] (.type "str") (.type "bool")=some false;decide +kernel
 | list x=>show W.kitOne [] (.type "list") (.type "bool")=some false;decide +kernel
 | tuple x=>show W.kitOne [] (.type "tuple") (.type "bool")=some false;decide +kernel
 | dict x=>show W.kitOne [] (.type "dict") (.type "bool")=some false;decide +kernel
section
variable{X:Cx}
end
section
variable{X:Cx}
end
section
variable{t:Addr}{pc:Int}{ve:V}{mv:Int}{qn sp:Addr}
end
section
variable{H H':Hp}{md t sp qn qe:Addr}{ve:V}{f m:Int}{pc:Nat}{M:MT}{ss:Spots}{lsN lsE:List Addr}{F G:Addr->Prop}
end
section
variable{H H' H3:Hp}{md t sp qn qe q:Addr}{ve:V}{f m:Int}{pc:Nat}{M:MT}{ss:Spots}{lsN lsE ls:List Addr}{R:MRows}
end
section
variable{prog:Program}{w:World}{A:Around}{E:Value->Shared->Prop}{s:Shared}
end
section
variable{X:Cx}
end
end SW
set_option maxHeartbeats 4000000
namespace SW
open PySem PySem.Spec PyProof.Rows L2
end SW
set_option maxHeartbeats 4000000
namespace SW
open PySem PySem.Spec PyProof.Rows L2
end SW
set_option maxHeartbeats 2000000
namespace SW
open PySem PySem.Spec PyProof.Rows L2
end SW
set_option maxHeartbeats 2000000
namespace SW
open PySem PySem.Spec PyProof.Rows L2
section
variable{X:Cx}
end
section
variable{X:Cx}{pins:List (Addr×Obj)}{σ:L2.St}{H:Hp}{s:Shared}
end
section
variable{X:Cx}{pins:List (Addr×Obj)}{σ:L2.St}{H:Hp}{s:Shared}{kS D:Addr}{vs:List Value}{kz:List Int}{keys:Array Value}{e e1:Nat}{A:Around}{E:Value->Shared->Prop}{PP:PySem.Fin->Shared->Prop}
end
section
variable{X:Cx}{pins:List (Addr×Obj)}{σ:L2.St}{H:Hp}{s:Shared}{c P:Addr}{pos:Pos}{qual:Str}{params:Arguments}{body:Expr}{scope:Scope}{firstLine:Nat}{E:Value->Shared->Prop}{Q:Value->Shared->Prop}{A:Around}
end
section
variable{K:W.Frag}{P:Addr}
variable(hP:K.lookup P=some (W.tabObj #[]))
include hP
end
end SW
set_option maxHeartbeats 2000000
namespace SW
open PySem PySem.Spec PyProof.Rows L2
section
variable{C CT P b:Addr}{H H':Hp}{p:Addr}{f m:Int}{pc:Nat}{M:MT}{tc:Int}{F:Addr->Prop}{R:MRows}{pos:Pos}{qual:Str}
end
end SW
set_option maxHeartbeats 2000000
namespace SW
open PySem PySem.Spec PyProof.Rows L2
end SW
set_option maxHeartbeats 2000000
namespace SW
open PySem PySem.Spec PyProof.Rows L2
section
variable{K:W.Frag}{H:Hp}{x y:V}{n:Nat}
end
section
variable{H:Hp}{Q:VK}{E:XK}{p:Addr}
end
section
variable{f m:Int}{pc:Nat}
end
end SW
set_option maxHeartbeats 2000000
namespace SW
open PySem PySem.Spec PyProof.Rows L2
section
variable{K:W.Frag}{H:Hp}
end
end SW
set_option maxHeartbeats 2000000
namespace SW
open PySem PySem.Spec PyProof.Rows L2
end SW
set_option maxHeartbeats 2000000
namespace SW
open PySem PySem.Spec PyProof.Rows L2
end SW
set_option maxHeartbeats 2000000
namespace SW
open PySem PySem.Spec PyProof.Rows L2
section
variable{f m:Int}{M:MT}{cur:Int}
end
end SW
set_option maxHeartbeats 2000000
namespace SW
open PySem PySem.Spec PyProof.Rows L2
end SW
namespace SW
open PySem PySem.Spec PyProof.Rows L2
section
variable{X:Cx}
open PySem.Builtin PySem.Builtin.Str in
open PySem.Builtin PySem.Builtin.Str in
end
section
variable{X:Cx}{tg:Expr}
end
open PySem.Builtin PySem.Builtin.Str in
section
variable{X:Cx}
end
section
variable{D:Addr}{x0:PySem.Str}{σ0:L2.St}{H1:Hp}{te:TE}
end
end SW
namespace SW
open PySem PySem.Spec PyProof.Rows L2
end SW
namespace SW
open PySem PySem.Spec PyProof.Rows L2
section
variable{X:Cx}{tg:Expr}
end
section
variable{prog:Program}{w:World}{A:Around}{E:Value->Shared->Prop}
end
end SW
set_option maxHeartbeats 2000000
namespace SW
open PySem PySem.Spec PyProof.Rows L2
theorem hok_hide{P:Program}{w:World}{H:Hp}{h:Heap}{fs:List Addr}(x:HOk P w H h)(n:∀ b∈fs,H b=none):HOk P w H (W.hideAll h fs):=fun a o e=>
 (x a o e).stay (fun b u hb q=>W.hideAll_get fs q fun z=>by
  have z:=n b z;rcases hb with rfl | hb
  · rw[z]at e;cases e
  rw[z]at hb;cases hb) (fun _ q=>q) fun _ _ q=>q
structure Lies(P:Program)(w:World)(outer:List Env)(H:Hp)(s s':Shared)(ea C t:Addr)(B:Heap)(H':Hp):Prop where
 fly:Heap.FlyingW B outer ea (.ref C) (.ref t) s'.heap
 hok:HOk P w H' B
 keep:∀ b o,s.heap.get? b=some o->H b=none->b∉frs outer->B.get? b=some o
 there:∀ b o,s.heap.get? b=some o->b∉frs outer -> ∃ o',B.get? b=some o'
 slot:∀ b o,s.heap.get? b=some o->b∈frs outer -> ∃ sl,s'.heap.get? b=some { o with slots:=sl }
 free:∀ b o,s.heap.get? b=some o->H b=none->H' b=none
 tups:∀ b xs,H b=some (.tup xs)->H' b=some (.tup xs)
 frzs:∀ b o u,H b=some (.frz o u)->H' b=some (.frz o u)
 tbls:∀ b ps,H b=some (.tbl ps) -> ∃ more,H' b=some (.tbl (ps++more))
 bare:AllBare s'.gens
 os:s'.os=s.os
noncomputable def CXr(P:Program)(w:World):CXT:=fun outer H s E e s'=>∃(ea C t:Addr) (B:Heap) (H':Hp),e=.ref ea/\Lies P w outer H s s' ea C t B H'/\E (.ref C) none H'
section
variable{P:Program}{w:World}{outer:List Env}{H H':Hp}{s s':Shared}{ea C t:Addr}{B h6:Heap}
theorem Lies.un(L:Lies P w outer H s s' ea C t B H')(hB:B.StaysIn h6)(sm:s'.heap.UpToSlots h6):Un (frs outer) [] H H' s.heap h6:=by
 have sl6:∀ b o,s.heap.get? b=some o->b∈frs outer -> ∃ sl,h6.get? b=some { o with slots:=sl }:=fun b o q hf=>by
  obtain⟨sl,e⟩:=L.slot b o q hf;obtain⟨o',e',nd⟩:=(L.fly.2.2.1.mem hf).2;rw[e]at e';cases e';obtain⟨sl',e6⟩:=sm _ _ e nd;exact⟨sl',e6⟩
 refine⟨fun b o q n hf _=>hB _ _ (L.keep b o q n hf),fun b o q n hf _=>sl6 b o q hf,fun b o q n _=>L.free b o q n,fun b o q _=>?_,L.tups,L.frzs,L.tbls⟩;by_cases hf:b∈frs outer
 · obtain⟨sl,e⟩:=sl6 b o q hf
   exact⟨_,e⟩
 obtain⟨o',e⟩:=L.there b o q hf;exact⟨o',hB _ _ e⟩
end
section
variable{P:Program}{w:World}{K:W.Frag}{mg:Str->Option Value}{base:Heap}{N:List Str}{qual:Str}{scope:Scope}{f:Addr}{cd:Value}{A:Around}{outer:List Env}{s₀:Shared}{H₀:Hp}{E:XK}
theorem stk_split{X:Cx}{pins:List (Addr×Obj)}{σ:L2.St}{H:Hp}{s:Shared}(I:L2.Inv X pins σ H s){b:Addr}(h:b < X.s₀.heap.objs.size)(hb:b∉X.fs):b∉frs X.stack:=fun z=>by
 rcases List.mem_cons.mp (I.stkSub b z)with e | e
 · have:=I.ok.above
   rw[← e]at this;exact absurd h (Nat.not_lt.mpr this)
 exact hb e
theorem xe_made{pins:List (Addr×Obj)}{σ:L2.St}{H:Hp}{s:Shared}{h':Heap}{e C:Addr}{vs:List Value}
 (I:L2.Inv (cxOf (CXr P w) P w K mg base N qual scope f cd A outer s₀ H₀ E) pins σ H s) (hx:Heap.MadeExcOf s.heap h' e (.ref C) vs) (hE:E (.ref C) none H) :
 (cxOf (CXr P w) P w K mg base N qual scope f cd A outer s₀ H₀ E).xe (.ref e) { s with heap:=h' }:=by
 have hin:∀ env∈(cxOf (CXr P w) P w K mg base N qual scope f cd A outer s₀ H₀ E).stack,∀ b,env.frame=some b->b∈frs (cxOf (CXr P w) P w K mg base N qual scope f cd A outer s₀ H₀ E).stack:=fun env he b hb=>List.mem_filterMap.mpr ⟨env,he,hb⟩;refine wpAny_leaves_madeW (base:=W.hideAll s.heap (frs (cxOf (CXr P w) P w K mg base N qual scope f cd A outer s₀ H₀ E).stack)) (h:=s.heap) I.ok.frames rfl (fun b o q=>W.of_hideAll _ q) (W.funFrames_hide I.stack hin) hx fun h'' t fl tup tn sm=>?_;have lt:∀{b o},s₀.heap.get? b=some o->b < s₀.heap.objs.size:=fun q=>Heap.lt_size q;refine⟨e,C,t,_,H,rfl,⟨fl,hok_hide I.hok I.stkFree,fun b o q n hf=>?_,fun b o q hf=>?_,fun b o q hf=>?_,fun b o q n=>I.base.free b o q n (by show b∉[];simp),I.base.tups,I.base.frzs,I.base.tbls,I.bare,I.os⟩,hE⟩
 · exact W.hideAll_get _ (I.base.keep b o q n hf (by show b∉[];simp)) (stk_split I (lt q) hf)
 · obtain⟨o',e'⟩:=I.base.there b o q (by show b∉[];simp)
   exact⟨o',W.hideAll_get _ e' (stk_split I (lt q) hf)⟩
 obtain⟨sl,e1⟩:=I.base.slot b o q (I.ok.frf b hf) hf (by show b∉[];simp)
 obtain⟨o',e',nd⟩:=(fl.2.2.1.mem hf).2;have e2:=hx.keeps _ _ e1;have nd1:∀ vs,({ o with slots:=sl }:Obj).data ≠ .fields vs:=by
  obtain⟨o2,e2',nd2⟩:=(I.funs.mem hf).2;rw[e1]at e2';cases e2';exact nd2
 obtain⟨sl',e6⟩:=sm _ _ e2 nd1;exact⟨sl',e6⟩
theorem pass_r:Passes (CXr P w) (cxOf (CXr P w) P w K mg base N qual scope f cd A outer s₀ H₀ E) E:=by
 intro pins σ H s e s' I hc;obtain⟨ea,C,t,B,H',rfl,L,hE⟩:=hc;have stk:(cxOf (CXr P w) P w K mg base N qual scope f cd A outer s₀ H₀ E).stack=envOfC qual scope s₀.heap.objs.size f cd::outer:=rfl;refine wpAny_leaves_onW I.ok.frames rfl L.fly fun h' fl sm=>?_;have u:=L.un fl.1 sm;have lt:∀{b o},s₀.heap.get? b=some o->b < s₀.heap.objs.size:=fun q=>Heap.lt_size q;refine⟨ea,C,t,B,H',rfl,⟨fl,L.hok,fun b o q n hf=>?_,fun b o q hf=>?_,fun b o q hf=>?_,fun b o q n=>?_,fun b xs q=>L.tups b xs (I.base.tups b xs q),fun b o u q=>L.frzs b o u (I.base.frzs b o u q),fun b ps q=>?_,L.bare,L.os.trans I.os⟩,hE⟩
 · exact L.keep b o (I.base.keep b o q n hf (by show b∉[];simp)) (I.base.free b o q n (by show b∉[];simp)) (stk_split I (lt q) hf)
 · obtain⟨o',e'⟩:=I.base.there b o q (by show b∉[];simp)
   exact L.there b o' e' (stk_split I (lt q) hf)
 · obtain⟨sl,e1⟩:=I.base.slot b o q (I.ok.frf b hf) hf (by show b∉[];simp)
   have hs:b∈frs (cxOf (CXr P w) P w K mg base N qual scope f cd A outer s₀ H₀ E).stack:=by
    rw[stk];obtain⟨env,he,hb⟩:=List.mem_filterMap.mp hf;exact List.mem_filterMap.mpr ⟨env,List.mem_cons_of_mem _ he,hb⟩
   obtain⟨sl',e2⟩:=u.slot b _ e1 (I.base.free b o q (I.ok.frf b hf) (by show b∉[];simp)) hs (by simp)
   exact⟨sl',e2⟩
 · obtain⟨o',e'⟩:=I.base.there b o q (by show b∉[];simp)
   exact L.free b o' e' (I.base.free b o q n (by show b∉[];simp))
 obtain⟨m1,e1⟩:=I.base.tbls b ps q;obtain⟨m2,e2⟩:=L.tbls b _ e1;exact⟨m1++m2,by rw[e2,Array.append_assoc]⟩
end
section
variable{P:Program}{w:World}{K:W.Frag}{mg:Str->Option Value}{base:Heap}{N:List Str}{qual:Str}{scope:Scope}{f:Addr}{cd:Value}{A:Around}{outer:List Env}{s₀:Shared}{H₀:Hp}{E:XK}
noncomputable def OwnX(K:W.Frag)(C:Addr):Prop:=W.excIn K C [.type "ValueError",.type "Exception",.type "BaseException",.type "object"] "ValueError.__new__"=true
theorem own_obj{h:Heap}{C:Addr}{bmB:List Value}{newId:String}(X:K.In h)(q:W.excIn K C bmB newId=true):∃ bm N nm q bs hdct sn sub ab col dd k0 k1 k2 k3 k5 mN,h.get? C=some (excClassObj nm q C N bs bm hdct sn sub ab col dd k0 k1 k2 k3 k5 newId)/\h.Ns N mN/\mN "__init__"=none/\OwnTail h bmB bm:=by
 unfold W.excIn at q;split at q
 · rename_i dd cd sl ho
   split at q
   · rename_i C' bm k0 k1 k2 k3 n k5 hm hs
     simp only[Bool.and_eq_true,beq_iff_eq,Bool.not_eq_true']at q;obtain⟨⟨⟨⟨⟨rfl,rfl⟩,hdel⟩,ht⟩,hok⟩,hni⟩:=q;obtain⟨nm,bs,mro,ns,qn,hd,sn,sub,ab,col,del⟩:=cd
     dsimp only at hm hdel hok hni
     subst hm hdel;have hsl:sl=#[k0,k1,k2,k3,some (.builtin n),k5]:=by
      obtain⟨l⟩:=sl;simp only at hs;rw[hs]
     subst hsl;exact⟨bm,ns,nm,qn,bs,hd,sn,sub,ab,col,dd,k0,k1,k2,k3,k5,_,X _ _ ho,.of_isNs (W.isNs_of_in X hok),W.nsMap_none_of_in X hok hni,W.tail_of_in X ht⟩
   cases q
 cases q
noncomputable def tRaise(E:XK)(C:Addr):TS:=fun _ _ H=>E (.ref C) none H
theorem ps_raise{x msg:Str}{kk}{C:Addr}{np p1 cpos pos:Pos}(hm:mg x=some (.ref C))(hx:OwnX K C)(hg:Gl (cxOf (CXr P w) P w K mg base N qual scope f cd A outer s₀ H₀ E) x)(hd:(x == ("__debug__":Str))=false) :
 PS (cxOf (CXr P w) P w K mg base N qual scope f cd A outer s₀ H₀ E) (.Raise (some (.Call (.Name x np) [.Constant (.str msg) kk p1] [] cpos)) none pos) (tRaise E C):=by
 intro pins s σ H D I h;obtain⟨bm,N',nm,q,bs,hdct,sn,sub,ab,col,dd,k0,k1,k2,k3,k5,mN,hC,hN,hni,T⟩:=own_obj I.ok.mod.kin hx;refine wpAny_Raise_call_subT (C:=C) (nm:=nm) (q:=q) (N:=N') (bs:=bs) (bm:=bm) (hdct:=hdct) (sn:=sn) (sub:=sub) (ab:=ab) (col:=col) (dd:=dd) (k0:=k0) (k1:=k1) (k2:=k2) (k3:=k3) (k5:=k5)
  PySem.F.excBase_ValueError (mN:=mN) (T.hasType PySem.F.excBase_ValueError.hasBase) (I.ok.hd rfl) rfl hni (ld_glob I hg hm ⟨rfl,?_⟩ hd)
 refine Calls.evalArgs_plain ?_;refine thn ((pa_cons pe_str pa_nil) cpos pins s σ H (fun vs H'=>H'=H/\vs.length<=sizeLine) I ⟨rfl,by show(1:Nat)<=sizeLine;decide⟩) fun us s2 zz=>?_
 obtain⟨vs,H2,I2,r,e,hl⟩:=zz;subst e;exact⟨rfl,by show us.length<=sizeLine;rw[← r.length];exact hl,I2.bk _ _ hC,hN.keeps I2.bk,T.keeps I2.bk,fun h' e hx=>xe_made I2 hx h⟩
end
section
variable{X:Cx}{pins:List (Addr×Obj)}{σ:L2.St}{H:Hp}{s:Shared}
theorem name_gone{M:Model}{A:Around}{E:Value->Shared->Prop}{i:Nat}{x:Str}{pos:Pos}{Q:Unit->Shared->Prop}(I:L2.Inv X pins σ H s)(hN:X.N.Nodup)(hi:X.N[i]?=some x)(hk:X.env.scope.names.lookup x=some .local)
 (h:∀ s',L2.Inv X pins (σ.set i none) H s'->Q () s'):wpAny M A (do bindName X.env x .none;unbindBehindTheSuite X.env x pos) Q E s:=by
 have hcls:(X.env.scope.kind == .class || (X.env.scope.kind == .module && X.env.locals != X.env.globals))=false:=by rw[I.ok.kind];rfl
 have hl:X.env.kindOf x=some .local:=hk;refine wpAny_bind (wpAny_bindName (store_ok (v:=.non) I hN hi (.inl hk) rfl (fun s1 I1=>?_) (.inr hk)));obtain⟨m,hn,hm⟩:=id I1.loc;have hiσ:i < (σ.set i (some V.non)).length:=by rw[I1.len];exact(List.getElem?_eq_some_iff.mp hi).1
 have hmx:∃ u,m x=some u:=by
  obtain⟨u,_,q⟩:=hm i x .non hi (List.getElem?_set_self (by simpa using hiσ)) (.inl hk)
  rcases q with ⟨_,e⟩ | ⟨k,_⟩
  · exact⟨u,e⟩
  rcases k with k | k <;> rw[hl]at k <;> cases k
 obtain⟨u,hmu⟩:=hmx;unfold unbindBehindTheSuite;refine wpAny_onRaise ?_;unfold unbindName;refine wpAny_bind (wpAny_point (wpAny_bind ?_));unfold deleteName;simp only[hl,hcls];rw[if_neg (by decide)]
 refine wpAny_bind (wpAny_nsDel_keeps hn fun h2 v hn2 hs=>?_);rw[hmu];simp only[Option.isSome_some,Bool.not_true,Bool.false_eq_true,if_false];refine wpAny_pure (wpAny_point (h _ ?_));obtain⟨oL,_,_,hoL,_⟩:=id hn;have cne:=I1.cne;refine⟨I1.ok,I1.os,I1.bare,⟨fun b o e n hb hx=>?_,fun b o e n hb hx=>?_,I1.base.free,fun b o e hx=>?_,I1.base.tups,I1.base.frzs,I1.base.tbls⟩,⟨_,hn2,fun j y v' e1 e2 e3=>?_⟩,fun y c e=>?_,I1.free,I1.freeC,fun p hp=>?_,fun b ob e=>?_,by simpa using I1.len⟩
 · exact(hs.2 b (Nat.ne_of_lt (Nat.lt_of_lt_of_le (Heap.lt_size e) I1.ok.above))).trans (I1.base.keep b o e n hb hx)
 · obtain⟨sl,e1⟩:=I1.base.slot b o e n hb hx
   exact⟨sl,(hs.2 b (Nat.ne_of_lt (Nat.lt_of_lt_of_le (Heap.lt_size e) I1.ok.above))).trans e1⟩
 · obtain⟨o',e1⟩:=I1.base.there b o e hx
   exact⟨o',(hs.2 b (Nat.ne_of_lt (Nat.lt_of_lt_of_le (Heap.lt_size e) I1.ok.above))).trans e1⟩
 · by_cases hj:j=i
   · subst hj
     rw[List.getElem?_set_self (by simpa using hiσ)]at e2
     cases e2
   rw[List.getElem?_set_ne (Ne.symm hj)]at e2;obtain⟨u',r',q⟩:=hm j y v' e1 (by rw[List.getElem?_set_ne (Ne.symm hj)];exact e2) e3
   refine⟨u',r',?_⟩;rcases q with ⟨k,e⟩ | ⟨k,c,e,z⟩
   · refine .inl ⟨k,?_⟩
     have:y≠x:=fun e=>hj (nodup_ix hN e1 (e ▸ hi));simp[this,e]
   exact .inr ⟨k,c,e,z.sameBut hs (cne y c e)⟩
 · obtain⟨w',z⟩:=I1.cell y c e
   exact⟨w',z.sameBut hs (cne y c e)⟩
 · obtain⟨e,n,ne,nf,d⟩:=I1.pin p hp
   exact⟨(hs.2 p.1 ne).trans e,n,ne,nf,d⟩
 refine(I1.hok b ob e).stay (fun c w' hc q=>(hs.2 c ?_).trans q) (fun _ q=>q) fun _ _ q=>q;rintro rfl;rcases hc with hc | hc
 · rw[← hc,I1.free]at e;cases e
 rw[I1.free]at hc;cases hc
noncomputable def excO(ea C:Addr):HO:=.ext fun h=>∃ ob,h.get? ea=some ob/\ob.cls=.ref C
theorem excO_ok{P:Program}{w:World}{H:Hp}{h:Heap}{ea C:Addr}(h1:∃ ob,h.get? ea=some ob/\ob.cls=.ref C):ObjOk P w H h ea (excO ea C):=
 ⟨h1,let⟨ob,e,_⟩:=h1;⟨ob,e⟩,fun _ _ ⟨ob,e,c⟩ k=>⟨ob,k ob e,c⟩⟩
theorem inv_track{a:Addr}{o:HO}(I:L2.Inv X pins σ H s)(hn:H a=none)(h0:X.s₀.heap.get? a=none)(hL:a≠X.env.locals)(hc:∀ x c,X.env.cells.lookup x=some c->c≠a)(hp:∀ p∈X.pn++pins,p.1≠a)(ok:ObjOk X.prog X.w (upd H a o) s.heap a o):L2.Inv X pins σ (upd H a o) s:=by
 have ne:∀{b u},H b=some u->b≠a:=fun e z=>by rw[z,hn]at e;cases e
 have st:∀{b u},H b=some u->upd H a o b=some u:=fun e=>by rw[upd_ne (ne e)];exact e
 refine⟨I.ok,I.os,I.bare,⟨I.base.keep,I.base.slot,fun b ob e n hx=>?_,I.base.there,fun b xs e=>st (I.base.tups b xs e),fun b ob u e=>st (I.base.frzs b ob u e),fun b ps e=>?_⟩,I.loc,I.cell,?_,fun x c e=>?_,fun p hp'=>?_,fun b u e=>?_,I.len⟩
 · rw[upd_ne (fun z=>by rw[z,h0]at e;cases e)]
   exact I.base.free b ob e n hx
 · obtain⟨more,q⟩:=I.base.tbls b ps e
   exact⟨more,st q⟩
 · rw[upd_ne hL.symm];exact I.free
 · rw[upd_ne (hc x c e)];exact I.freeC x c e
 · obtain⟨e,n,ne',nf,d⟩:=I.pin p hp'
   exact⟨e,by rw[upd_ne (hp p hp')];exact n,ne',nf,d⟩
 by_cases z:b=a
 · subst z
   rw[upd_same]at e;cases e;exact ok
 rw[upd_ne z]at e;exact(I.hok b u e).stay (fun _ _ _ q=>q) (fun _ q=>st q) fun _ _ q=>st q
end
theorem obj_some{P:Program}{w:World}{H:Hp}{h:Heap}{a:Addr}{o:HO}(x:ObjOk P w H h a o):∃ ob,h.get? a=some ob:=by
 cases o with
 | lst xs=>obtain⟨z,its,n,r,e⟩:=x;exact⟨_,e⟩
 | tup xs=>obtain⟨z,its,r,ob,e,c⟩:=x;exact⟨_,e⟩
 | dK kvs=>obtain⟨z,y,vs,r,ob,es,ep,e,c⟩:=x;exact⟨_,e⟩
 | dT kvs=>obtain⟨z,y,xs,r,ob,es,ep,e,c⟩:=x;exact⟨_,e⟩
 | set S n=>obtain⟨ob,es,ep,t,e,c⟩:=x;exact⟨_,e⟩
 | ins C dx fs=>obtain⟨d,z,ne,e,r⟩:=x;exact⟨_,e⟩
 | own y=>obtain⟨ob,e⟩:=x;exact⟨_,e⟩
 | xd fs=>obtain⟨mA,⟨od,es,ep,e,c⟩,r⟩:=x;exact⟨_,e⟩
 | rng lo hi=>obtain⟨t,u,v,e⟩:=x;exact⟨_,e⟩
 | frz ob u=>obtain⟨e,q⟩:=x;exact⟨_,e⟩
 | tbl ps=>exact⟨_,(show h.get? a=some { cls:=.none,data:=.fields ps } from x)⟩
 | met f y=>exact⟨_,(show h.get? a=some (W.methodObj (.ref f) (.ref y))from x)⟩
 | ext φ=>obtain⟨p,⟨o,e⟩,st⟩:=x;exact⟨_,e⟩
theorem Lies.new{P:Program}{w:World}{outer:List Env}{H H':Hp}{s s':Shared}{ea C t:Addr}{B:Heap}(L:Lies P w outer H s s' ea C t B H'):s.heap.get? ea=none:=by
 cases e:s.heap.get? ea with
 | none=>rfl
 | some o=>
   exfalso
   by_cases hf:ea∈frs outer
   · obtain⟨sl,e1⟩:=L.slot ea o e hf
     obtain⟨o',e',nd⟩:=(L.fly.2.2.1.mem hf).2;obtain⟨oe,ws,hoe,hoec,hoed,hoe0⟩:=L.fly.first;rw[hoe]at e';cases e';exact nd _ hoed
   obtain⟨o',e'⟩:=L.there ea o e hf;rw[L.fly.2.1]at e';cases e'
theorem Lies.untracked{P:Program}{w:World}{outer:List Env}{H H':Hp}{s s':Shared}{ea C t:Addr}{B:Heap}(L:Lies P w outer H s s' ea C t B H'):H' ea=none:=by
 cases e:H' ea with
 | none=>rfl
 | some o=>
   obtain⟨ob,q⟩:=obj_some (L.hok ea o e);rw[L.fly.2.1]at q;cases q
noncomputable def Cx.held(X:Cx)(ea:Addr):Cx:={ X with A:=X.A.mark (some (.ref ea)),calm:=false }
section
variable{X:Cx}{pins:List (Addr×Obj)}{σ:L2.St}{H:Hp}{s:Shared}
theorem inv_held(I:L2.Inv X pins σ H s)(ea:Addr):L2.Inv (Cx.held X ea) pins σ H s:=
 ⟨⟨I.ok.mod,I.ok.kind,I.ok.glob,I.ok.blt,I.ok.above,I.ok.inj,I.ok.has,I.ok.cab,(fun z=>by cases z),I.ok.frames,I.ok.stk,I.ok.exf,I.ok.bs,I.ok.bsz,I.ok.noex,I.ok.exfs,I.ok.funs,I.ok.frf⟩,I.os,I.bare,I.base,I.loc,I.cell,I.free,I.freeC,I.pin,I.hok,I.len⟩
theorem inv_unheld{ea:Addr}(hc:X.calm=true->X.A.handled=none)(I:L2.Inv (Cx.held X ea) pins σ H s):L2.Inv X pins σ H s:=
 ⟨⟨I.ok.mod,I.ok.kind,I.ok.glob,I.ok.blt,I.ok.above,I.ok.inj,I.ok.has,I.ok.cab,hc,I.ok.frames,I.ok.stk,I.ok.exf,I.ok.bs,I.ok.bsz,I.ok.noex,I.ok.exfs,I.ok.funs,I.ok.frf⟩,I.os,I.bare,I.base,I.loc,I.cell,I.free,I.freeC,I.pin,I.hok,I.len⟩
noncomputable def PassAt(CX:CXT)(X:Cx)(pins:List (Addr×Obj))(σ:L2.St)(E:XK):Prop:=∀ H s e s',L2.Inv X pins σ H s->CX X.stack H s E e s'->X.xe e s'
end
section
variable{X:Cx}
end
end SW
set_option maxHeartbeats 2000000
namespace SW
open PySem PySem.Spec PyProof.Rows L2 PySem.Builtin PySem.Builtin.ObjectAttr PySem.Builtin.Getset_descriptor
theorem ga_kind:builtinKind "BaseException.__getattribute__"=some .slot:=by decide +kernel
theorem ga_split:splitId "BaseException.__getattribute__"=some ("BaseException","__getattribute__"):=by decide +kernel
theorem ga_bind(self:Value):bindSpecial (.builtin "BaseException.__getattribute__") self=pure (.builtin "BaseException.__getattribute__",[self]):=by
 have hop:withoutEnding? "BaseException.__getattribute__" "#opaque"=none:=by decide +kernel
 have hdat:withoutEnding? "BaseException.__getattribute__" "#data"=none:=by decide +kernel
 simp only[bindSpecial,typeOf,builtinType,hop,hdat,ga_kind];rfl
theorem ga_plain:plainId "BaseException.__getattribute__"=true:=by decide +kernel
theorem ga_entry:entryFor table "BaseException.__getattribute__"=some Builtin.«object.__getattribute__»:=
 entryFor_alias (id':="object.__getattribute__") (by kernel_rfl) (by first | rfl | decide +kernel) (by decide +kernel) (by kernel_rfl)
section
variable{M:Model}{prog:Program}{w:World}{A:Around}{E:Value->Shared->Prop}{s:Shared}{K:W.Frag}{x C:Addr}
theorem ga_check{Q:Unit->Shared->Prop}{n:Str}{tk:Tok}(hI:W.Looks M s.heap (isInstance (.ref x) (.type "BaseException")) true)(hQ:Q () s):wpAny M A (checkBuiltinCall "BaseException.__getattribute__" ⟨[.ref x,.str n tk],[]⟩) Q E s:=by
 simp only[checkBuiltinCall,ga_kind,ga_split];refine wpAny_bind (hI.at ?_);simp only[Bool.not_true,Bool.false_eq_true,if_false];have h2:∀ a b:Value,(match Manifest.signature? "BaseException.__getattribute__" with
  | some sig=>Bind.checkArgs "BaseException.__getattribute__" sig { pos:=[a,b] }
  | _=>pure ())=(pure ():Sem Unit):=fun a b=>by
  kernel_rfl
 exact wpAny_of_eq (h2 _ _) hQ
theorem looks_cls(X:K.In s.heap)(ha:W.findIn K (.ref C) "__class__"=some (some (.builtin "object.__class__")))(hn:W.specialIn K (.builtin "object.__class__") "__get__"=some (some (.builtin "getset_descriptor.__get__")))(htk:W.takesIn K (.builtin "object.__class__")=some true) :
 W.Looks M s.heap (find (.ref x) (.ref C) "__class__") (.bind (.builtin "getset_descriptor.__get__") (.builtin "object.__class__")):=by
 have L1:=W.looks_findIn (M:=M) X ha;have L2:W.Looks M s.heap (getOf (some (.builtin "object.__class__"))) (some (.builtin "getset_descriptor.__get__")):=W.looks_specialIn X hn;refine L1.andThen (L2.andThen ?_);have L3:=W.looks_takesIn (M:=M) X htk;exact(show W.Looks M s.heap (dataDescriptor? (some (.builtin "object.__class__")) (some (.builtin "getset_descriptor.__get__"))) (some (.builtin "getset_descriptor.__get__",.builtin "object.__class__"))from L3.andThen .now).andThen (W.Looks.tag .now)
structure ExcK(K:W.Frag)(C:Addr):Prop where
 ga:W.findIn K (.ref C) "__getattribute__"=some (some (.builtin "BaseException.__getattribute__"))
 gh:W.findIn K (.ref C) "__getattr__"=some none
 ha:W.findIn K (.ref C) "__class__"=some (some (.builtin "object.__class__"))
 hn:W.specialIn K (.builtin "object.__class__") "__get__"=some (some (.builtin "getset_descriptor.__get__"))
 htk:W.takesIn K (.builtin "object.__class__")=some true
 hm:W.mroIn K C (.type "object")=some true
 hb:W.mroIn K C (.type "BaseException")=some true
theorem exc_get{R:Result->Shared->Prop}{tp:Value}(X:K.In s.heap)(k:ExcK K C)(L0:W.Looks (model prog w) s.heap (typeOf (.ref x)) (.ref C))
 (h:R (.ok (.ret (.ref C))) s):codeAny (model prog w) A (.call (.builtin "getset_descriptor.__get__") ⟨[.builtin "object.__class__",.ref x,tp],[]⟩) R s:=by
 obtain⟨hh,g,dr,t,os⟩:=s;have L1:=W.looks_mroIn (M:=model prog w) X k.hm;refine codeAny_call_builtin W.KF.slot_gs.plain W.KF.entry_gs (W.KF.slot_gs.check _ _ _ _ _ _ _ _ W.KF.type_class (W.KF.args_gs _ _ _) ?_);unfold Builtin.«getset_descriptor.__get__» descrGet;rw[W.dga_obj];refine wpAny_bind (wpAny_pure ?_);unfold descrGetter descrCheckInstance descrNameAndClass isInstance;simp only[W.KF.owner_class]
 repeat lk
 refine⟨Code.quiet_builtin _ (by decide +kernel),codeAny_builtin W.KF.entry_class ?_⟩
 unfold Builtin.«object.__class__» shownTypeOf
 repeat lk
 exact h
theorem exc_entry{tk:Tok}{Q:Fin->Shared->Prop}(X:K.In s.heap)(k:ExcK K C)(L0:W.Looks (model prog w) s.heap (typeOf (.ref x)) (.ref C))(h:Q (.done (.ret (.ref C))) s) :
 wpAny (model prog w) A (Builtin.«object.__getattribute__» ⟨[.ref x,.str "__class__" tk],[]⟩) Q E s:=by
 obtain⟨hh,g,dr,t,os⟩:=s;have LF:=looks_cls (M:=model prog w) (x:=x) X k.ha k.hn k.htk;unfold Builtin.«object.__getattribute__»
 repeat (first | with_reducible refine wpAny_call (exc_get (s:=⟨hh,g,dr,t,os⟩) X k L0 ?_) | lk)
 exact h
theorem exc_attr{Q:Option Value->Shared->Prop}(X:K.In s.heap)(k:ExcK K C)(L0:W.Looks (model prog w) s.heap (typeOf (.ref x)) (.ref C))(h:Q (some (.ref C)) { s with toks:=s.toks+1 }) :
 wpAny (model prog w) A (getAttr? (.ref x) "__class__") Q E s:=by
 obtain⟨hh,g,d,t,os⟩:=s;have L1:=W.looks_findIn (M:=model prog w) X k.ga;have L2:=W.looks_findIn (M:=model prog w) X k.gh;unfold getAttr? getAttrBy? getAttrBy;refine wpAny_bind (wpAny_mkText (wpAny_bind (wpAny_attempt (wpAny_holding (wpAny_bind (L0.at (wpAny_bind (L1.at ?_))))))));show wpAny _ _ (getAttrByItsOwn _ _ _ _ _ _) _ _ _;unfold getAttrByItsOwn hookBefore callGetattribute;refine wpAny_bind (L2.at (wpAny_bind (wpAny_attempt (wpAny_holding ?_))));show wpAny _ _ (boundAndCalled _ _ _) _ _ _;unfold boundAndCalled;refine wpAny_bind (wpAny_of_eq (ga_bind _) ?_);refine wpAny_call (codeAny_call_builtin ga_plain ga_entry (ga_check (s:=⟨hh,g,d,t+1,os⟩) ?_ (exc_entry (s:=⟨hh,g,d,t+1,os⟩) X k L0 ?_)))
 · exact L0.andThen (W.looks_mroIn X k.hb)
 exact W.handed_on rfl (wpAny_pure h)
end
section
variable{K:W.Frag}{x C:Addr}
noncomputable abbrev HeldAt(x C:Addr):Heap->Prop:=fun h=>∃ ob,h.get? x=some ob/\ob.cls=.ref C
theorem held_ty{M:Model}{h:Heap}(p:HeldAt x C h):W.Looks M h (typeOf (.ref x)) (.ref C):=by
 obtain⟨ob,e,c⟩:=p;rw[← c];exact(W.Looks.ld e).andThen .now
theorem kitx_exc(k:ExcK K C)(hc:(W.clsIn K C).isSome=true):W.KitX K (.ref x) (.ref C) (HeldAt x C) where
 ty:=fun _ _ _ p=>held_ty p
 it:=fun _ _ X _=>by
  obtain⟨cdD,hcD⟩:=Option.isSome_iff_exists.mp hc;unfold W.clsIn at hcD;split at hcD
  · rename_i c' d' cd' sl' ho
    intro A' Q' E' s' k q;unfold isType loadHead;exact wpAny_bind (wpAny_loadPart (k _ _ (X _ _ ho)) (wpAny_pure q))
  cases hcD
 ne:=fun h tp dd its n sl X htp=>by
  obtain⟨cdD,hcD⟩:=Option.isSome_iff_exists.mp hc;refine Bool.eq_false_iff.mpr fun q=>?_;have e:C=tp:=Value.ref.inj (beq_iff_eq.mp q);subst e;unfold W.clsIn at hcD;split at hcD
  · rename_i c' d' cd' sl' ho
    have z:=(X _ _ ho).symm.trans htp;cases z
  cases hcD
 ca:=fun X p q=>exc_attr X k (held_ty p) q
structure ExcC(K:W.Frag)(C:Addr):Prop where
 k:ExcK K C
 c:(W.clsIn K C).isSome=true
noncomputable def clsV:V->Option Value
 | .ref a=>some (.ref a)
 | .ty n=>some (.type n)
 | _=>none
theorem clsV_rel{v:V}{u c:Value}(h:clsV v=some c)(r:RelV v u):u=c:=by
 cases v with
 | ref y=>cases h;exact r
 | ty y=>cases h;exact r
 | _=>cases h
theorem refs_of:∀{Cs:List Addr}{us:List Value},Vals (Cs.map V.ref) us->us=Cs.map Value.ref
 | [],_,.nil=>rfl
 | _::_,_,.cons r t=>by rw[refs_of t,show _=_ from r];rfl
noncomputable def rIsiX(K:W.Frag):List V->Hp->VK->Prop:=fun xs H Q=>∃(ea C:Addr) (v:V) (b:Bool),xs=[.ref ea,v]/\H ea=some (excO ea C)/\ExcC K C /\
 ((∃ c,clsV v=some c/\W.kitOne K (.ref C) c=some b) ∨ ∃(tp:Addr) (Cs:List Addr),v=.ref tp/\H tp=some (.tup (Cs.map V.ref))/\W.kitAny K (.ref C) (Cs.map Value.ref)=some b)/\Q (.bl b) H
theorem call_isiX(K:W.Frag){X:Cx}(hK:X.K=K:=by rfl):CallR X (.builtin "isinstance") (rIsiX K):=by
 subst hK;intro pins s σ H xs us Q I r h;obtain⟨ea,C,v,b,rfl,he,k,e,q⟩:=h;obtain⟨u,v',rfl,ru,rv⟩:=vals2 r;cases (show u=Value.ref ea from ru);obtain⟨p,_⟩:=(show ObjOk X.prog X.w H s.heap ea (excO ea C)from I.hok ea _ he);rcases e with ⟨c,hc,e⟩ | ⟨tp,Cs,rfl,ht,e⟩
 · cases clsV_rel hc rv
   exact W.kia_one (kitx_exc k.k k.c) I.kIn p e (fun z=>nomatch z) fun tk=>⟨.bl b,H,I.tok tk,rfl,q⟩
 cases (show v'=Value.ref tp from rv);obtain⟨_,its,rt,o,h1,h2,h3⟩:=(show ObjOk X.prog X.w H s.heap tp (.tup (Cs.map V.ref))from I.hok tp _ ht);have ei:=refs_of rt;subst ei;obtain⟨n,h3⟩:=h3;obtain⟨cl,dd,dat,sl⟩:=o;cases (show cl=Value.type "tuple" from h2);cases (show dat=Data.seq (Cs.map Value.ref).toArray n from h3);exact W.kia_tup (kitx_exc k.k k.c) I.kIn p h1 e (fun z=>nomatch z) fun tk=>⟨.bl b,H,I.tok tk,rfl,q⟩
end
end SW
set_option maxHeartbeats 2000000
namespace SW
open PySem PySem.Spec PyProof.Rows L2
structure MtX(P:Program)(w:World)(K:W.Frag)(mg:Str->Option Value)(base:Heap)(C:Addr)(m:Str)(k:Nat)(ps:List Str)(sp:Sp):Prop where
 ex:∃(f:Addr) (fd:FuncData),FnOk P w K mg base (CXr P w) k f fd ps sp/\Meth K C m f/\Binds K fd ps []
structure MkrX(P:Program)(w:World)(K:W.Frag)(mg:Str->Option Value)(base:Heap)(C:Addr)(x:Str)(k:Nat)(ps:List Str)(sp:Sp):Prop where
 ex:∃(f:Addr) (fd:FuncData),FnOk P w K mg base (CXr P w) k f fd ps sp/\Mk K C f/\mg x=some (.ref C)/\Binds K fd ps []
section
variable{P:Program}{w:World}{K:W.Frag}{mg:Str->Option Value}{base:Heap}
theorem fun_okX{x qual:Str}{st:Stmt}{f:Addr}{fd:FuncData}{N ps:List Str}{k:Nat}{sp:Sp}(F:Fun K x qual st f fd)(S:FnScope N ps (defScope st))(len:∀ vs H Q E,sp vs H Q E->vs.length=ps.length)
 (hbody:∀(cdv:Value) (A:Around) (outer:List Env) (s:Shared) (H:Hp) (vs:List V) (Q:VK) (E:XK),Room k (A.deeper (envOfC qual (defScope st) s.heap.objs.size f cdv))->sp vs H Q E ->
  ∃ t,Bx (PSs (cxOf (CXr P w) P w K mg base N qual (defScope st) f cdv A outer s H E) (defBody st) t)/\t { nx:=fun _ H'=>Q .non H',rt:=Q } (start N vs) H):FnOk P w K mg base (CXr P w) (k+1) f fd ps sp:=by
 obtain⟨oc,od,kV,doc,pm,an,cdv,ct,osl,rfl,lk,hcd⟩:=F.ex;refine fn_of lk hcd S len fun A outer s H vs Q E hr hsp=>?_;obtain⟨t,h,q⟩:=hbody cdv A outer s H vs Q E hr hsp;exact⟨t,h.out,q⟩
theorem Dm.mtX{C:Addr}{m qual:Str}{st:Stmt}{N ps:List Str}{k:Nat}{sp:Sp}(d:Dm K C m qual st ps)(S:FnScope N ps (defScope st))(len:∀ vs H Q E,sp vs H Q E->vs.length=ps.length)
 (hb:∀(f:Addr) (cdv:Value) (A:Around) (outer:List Env) (s:Shared) (H:Hp) (vs:List V) (Q:VK) (E:XK),Room k (A.deeper (envOfC qual (defScope st) s.heap.objs.size f cdv))->sp vs H Q E ->
  ∃ t,Bx (PSs (cxOf (CXr P w) P w K mg base N qual (defScope st) f cdv A outer s H E) (defBody st) t)/\t { nx:=fun _ H'=>Q .non H',rt:=Q } (start N vs) H):MtX P w K mg base C m (k+1) ps sp:=by
 obtain⟨f,fd,F,hm,hb'⟩:=d.ex;exact⟨f,fd,fun_okX F S len (hb f),hm,hb'⟩
theorem Dk.mkX{C:Addr}{x qual:Str}{st:Stmt}{N ps:List Str}{k:Nat}{sp:Sp}(d:Dk K mg C x qual st ps)(S:FnScope N ps (defScope st))(len:∀ vs H Q E,sp vs H Q E->vs.length=ps.length)
 (hb:∀(f:Addr) (cdv:Value) (A:Around) (outer:List Env) (s:Shared) (H:Hp) (vs:List V) (Q:VK) (E:XK),Room k (A.deeper (envOfC qual (defScope st) s.heap.objs.size f cdv))->sp vs H Q E ->
  ∃ t,Bx (PSs (cxOf (CXr P w) P w K mg base N qual (defScope st) f cdv A outer s H E) (defBody st) t)/\t { nx:=fun _ H'=>Q .non H',rt:=Q } (start N vs) H):MkrX P w K mg base C x (k+1) ps sp:=by
 obtain⟨f,fd,F,hm,hg,hb'⟩:=d.ex;exact⟨f,fd,fun_okX F S len (hb f),hm,hg,hb'⟩
structure ErrC(K:W.Frag)(mg:Str->Option Value)(x:Str)(C:Addr):Prop where
 m:mg x=some (.ref C)
 o:OwnX K C
namespace B
theorem raise{N:List Str}{qual:Str}{scope:Scope}{f:Addr}{cd:Value}{A:Around}{outer:List Env}{s₀:Shared}{H₀:Hp}{E:XK}{x msg:Str}{kk}{C:Addr}{np p1 cpos pos:Pos}(h:ErrC K mg x C)(hg:Gl (cxOf (CXr P w) P w K mg base N qual scope f cd A outer s₀ H₀ E) x:=by rfl)(hd:(x == ("__debug__":Str))=false:=by decide) :
 Bx (PS (cxOf (CXr P w) P w K mg base N qual scope f cd A outer s₀ H₀ E) (.Raise (some (.Call (.Name x np) [.Constant (.str msg) kk p1] [] cpos)) none pos) (tRaise E C)):=⟨ps_raise h.m h.o hg hd⟩
end B
end
section
variable{X:Cx}{CX:CXT}{k:Nat}{f C:Addr}{fd:FuncData}{ps:List Str}{sp:Sp}{dvs:List V}{ds:List Value}{E:XK}{x m:Str}{p pos apos:Pos}{e o:Expr}{es:List Expr}{ta:TE}{t:TA}{pins:List (Addr×Obj)}{σ:L2.St}
theorem run_fnA{H:Hp}{s:Shared}{Q:VK}{us:List Value}{vs:List V}(F:FnOk X.prog X.w X.K X.mg X.base CX k f fd ps sp)(hr:Room k X.A)(hb:Binds X.K fd ps ds)(hd:Vals dvs ds)(hx:PassAt CX X pins σ E)
 (I:L2.Inv X pins σ H s) (r:Vals vs us) (h:sp (vs++dvs) H Q E):wpAny (model X.prog X.w) X.A (call (.ref f) us) (EP X pins σ Q) X.xe s:=by
 have r2:Vals (vs++dvs) (us++ds):=r.append hd;have hl:(us++ds).length=ps.length:=by rw[← r2.length];exact F.len _ _ _ _ h
 refine wpAny_call (codeAny_mono (F.run X.A X.stack s H ⟨us,[]⟩ (us++ds) (vs++dvs) Q E hr I.env0 (hb s us I.kIn hl) r2 h) fun r s' hq=>?_);cases r with
 | error e=>exact hx H s e s' I hq
 | ok fl=>
   cases fl with
   | ret u=>exact I.after hq
   | next=>exact False.elim hq
   | brk=>exact False.elim hq
   | cont=>exact False.elim hq
theorem ev_meth{H:Hp}{s:Shared}{Q:VK}{pl:Sem Bool}(he:PE X o ta)(c:Cls X.K C)(hm:Meth X.K C m f)(F:FnOk X.prog X.w X.K X.mg X.base CX k f fd ps sp)(hr:Room k X.A)(hb:Binds X.K fd ps ds)(hd:Vals dvs ds)(hx:PassAt CX X pins σ E)(ha:PA X (e::es) t)
 (I:L2.Inv X pins σ H s) (h:tMeth C m sp dvs E ta t σ H Q) (hst:starEach (e::es) X.env=(false,eval e X.env)::starEach es X.env) (hpl:(backTo pos (starEach es X.env)).any (·.1)=false)
 (ht:eval (.Call (.Attribute o m apos) (e::es) [] pos) X.env=(do
  let ov ← eval o X.env
  standAt apos.atName
  let(f,first) ← holding [ov] (getMethod ov m pl)
  callWith pos f first (backTo pos (starEach (e::es) X.env)) (backToKw pos (keywordEach [] X.env)))) :
 wpAny (model X.prog X.w) X.A (eval (.Call (.Attribute o m apos) (e::es) [] pos) X.env) (EP X pins σ Q) X.xe s:=by
 refine W.methodCall_KW (pl:=pl) (thn (he pins s σ H _ I h) fun u s1 ⟨x,H1,I1,rx,a,dx,fs,ex,ea,l,q⟩=>?_) ht;subst ex;obtain rfl:u=Value.ref a:=rx;refine getmeth_ok I1 ea c hm l ?_;refine W.callWith_K (first:=[.ref a]) (h₀:=X.base) I.ok.mod.kin hm.kp (thn (ha pos pins s1 σ H1 _ I1 q) fun us s2 ⟨vs,H2,I2,r,q2⟩=>⟨I2.kIn,?_⟩) hst hpl;exact run_fnA (us:=.ref a::us) (vs:=.ref a::vs) F hr hb hd hx I2 (.cons rfl r) q2
end
section
variable{X:Cx}{k:Nat}{C:Addr}{ps:List Str}{sp:Sp}{x m:Str}{p cpos apos:Pos}{e o:Expr}{es:List Expr}{ta:TE}{t:TA}{cx n:Str}{CB:Addr}{i:Nat}{b₀:Stmt}{suite:List Stmt}{ts:TS}{bpos np hpos pos:Pos}
namespace B
end B
end
section
variable{K:W.Frag}{P:Addr}(hP:K.lookup P=some (W.tabObj #[]))
include hP
end
structure RoomH(k:Nat)(A:Around):Prop where
 dp:A.depth+3*k+5 < recursionLimit
 un:A.units+16*k+200 < cLine
theorem RoomH.of{k:Nat}{A:Around}{h:Option Value}(r:Room k A):RoomH k (A.mark h):=⟨r.dp,r.un⟩
theorem RoomH.bare{k:Nat}{A:Around}(r:RoomH k A):Room k { A with handled:=none }:=⟨rfl,r.dp,r.un⟩
noncomputable def Cx.wild(X:Cx):Cx:={ X with calm:=false }
structure FnHOk(P:Program)(w:World)(K:W.Frag)(mg:Str->Option Value)(base:Heap)(CX:CXT)(k:Nat)(f:Addr)(fd:FuncData)(ps:List Str)(sp:Sp):Prop where
 len:∀ vs H Q E,sp vs H Q E->vs.length=ps.length
 run:∀(A:Around) (outer:List Env) (s:Shared) (H:Hp) (args:Args) (us:List Value) (vs:List V) (Q:VK) (E:XK),RoomH k A->Env0 P w K mg base A outer s H->BindsTo s fd args (ps.zip us)->Vals vs us->sp vs H Q E ->
  codeAny (model P w) A (.call (.ref f) args) (CR CX outer P w H s Q E) s
section
variable{P:Program}{w:World}{K:W.Frag}{mg:Str->Option Value}{base:Heap}
theorem inv_startH{CX:CXT}{N ps:List Str}{qual:Str}{scope:Scope}{f:Addr}{cd:Value}{A:Around}{outer:List Env}{s s1:Shared}{H:Hp}{E:XK}{us:List Value}{vs:List V}
 (S:FnScope N ps scope) (e0:Env0 P w K mg base A outer s H) (hl:vs.length=ps.length) (r:Vals vs us)
 (x:InCallC s s.heap.objs.size (bindL (envOfC qual scope s.heap.objs.size f cd).kindOf (ps.zip us) fun _=>none) (cellsFrom (s.heap.objs.size+1) scope.names []) (bindC (envOfC qual scope s.heap.objs.size f cd).kindOf (ps.zip us) fun _=>none) s1) :
 L2.Inv (Cx.wild (cxOf CX P w K mg base N qual scope f cd A outer s H E)) [] (start N vs) H s1:=by
 have e1:Env0 P w K mg base { A with handled:=none } outer s H:=⟨e0.frames,e0.mod,e0.bs,e0.bsz,e0.funs,e0.frf,e0.hok,e0.bare⟩;have I:=inv_start (CX:=CX) (E:=E) (A:={ A with handled:=none }) S rfl e1 hl r x;exact⟨⟨I.ok.mod,I.ok.kind,I.ok.glob,I.ok.blt,I.ok.above,I.ok.inj,I.ok.has,I.ok.cab,(fun z=>by cases z),Around.frames_deeper e0.frames,I.ok.stk,I.ok.exf,I.ok.bs,I.ok.bsz,I.ok.noex,I.ok.exfs,I.ok.funs,I.ok.frf⟩,I.os,I.bare,I.base,I.loc,I.cell,I.free,I.freeC,I.pin,I.hok,I.len⟩
theorem fun_okH{x qual:Str}{st:Stmt}{f:Addr}{fd:FuncData}{N ps:List Str}{k:Nat}{sp:Sp}(F:Fun K x qual st f fd)(S:FnScope N ps (defScope st))(len:∀ vs H Q E,sp vs H Q E->vs.length=ps.length)
 (hbody:∀(cdv:Value) (A:Around) (outer:List Env) (s:Shared) (H:Hp) (vs:List V) (Q:VK) (E:XK),RoomH k (A.deeper (envOfC qual (defScope st) s.heap.objs.size f cdv))->sp vs H Q E ->
  ∃ t,Bx (PSs (Cx.wild (cxOf CX0 P w K mg base N qual (defScope st) f cdv A outer s H E)).nox (defBody st) t)/\t { nx:=fun _ H'=>Q .non H',rt:=Q } (start N vs) H):FnHOk P w K mg base CX0 (k+1) f fd ps sp:=by
 obtain⟨oc,od,kV,doc,pm,an,cdv,ct,osl,rfl,lk,hcd⟩:=F.ex;refine⟨len,fun A outer s H args us vs Q E hr e0 hb r hsp=>?_⟩;have hl:=len _ _ _ _ hsp;have inK:K.In s.heap:=e0.mod.kin.keeps fun b o e=>(e0.bs b o e).1;have noL:s.heap.NoLimit:=e0.mod.nolimit.keeps fun b o e=>(e0.bs b o e).1;have hkd:∀ y∈ps.zip us,(defScope st).names.lookup y.1=some .local∨((defScope st).names.lookup y.1=some .cell/\((cellsFrom (s.heap.objs.size+1) (defScope st).names []).lookup y.1).isSome=true):=by
  rintro⟨n,v⟩ hy;exact(S.par n (List.of_mem_zip hy).1).imp id fun q=>⟨q,W.cellsFrom_some _ _ _ (.inl q)⟩
 refine codeAny_call_function (RoomH.bare hr).depth (inK _ _ lk) rfl S.co S.gen rfl (W.codeRec_of inK hcd) (hb _ _ _ _ ?_);refine wpAny_newFunctionEnv_cells S.kind hkd fun env he s1 x=>?_;subst he;refine⟨noL.keeps x.toInCall.keep,codeAny_func ?_⟩;have hr2:RoomH k (A.deeper (envOfC qual (defScope st) s.heap.objs.size f cdv)):=⟨((RoomH.bare hr).deeper (envOfC qual (defScope st) s.heap.objs.size f cdv)).dp,((RoomH.bare hr).deeper (envOfC qual (defScope st) s.heap.objs.size f cdv)).un⟩;obtain⟨t,ht,hq⟩:=hbody cdv A outer s H vs Q E hr2 hsp;have I:=inv_startH (CX:=CX0) (E:=E) S e0 hl r x;refine wpAny_mono (ht.out.nox [] s1 (start N vs) H _ I hq) (fun fl s' hs=>?_) fun e s' hs=>hs;cases fl with
 | ret u=>
   obtain⟨v,σ',H',J,rv,q⟩:=hs;exact⟨v,H',J.os,J.bare,J.base,J.hok,rv,q⟩
 | next=>
   obtain⟨σ',H',J,q⟩:=hs;exact⟨V.non,H',J.os,J.bare,J.base,J.hok,rfl,q⟩
 | brk=>
   obtain⟨_,_,_,q⟩:=hs;exact False.elim q
 | cont=>
   obtain⟨_,_,_,q⟩:=hs;exact False.elim q
structure FnH(P:Program)(w:World)(K:W.Frag)(mg:Str->Option Value)(base:Heap)(x:Str)(k:Nat)(ps:List Str)(sp:Sp):Prop where
 ex:∃(f:Addr) (fd:FuncData),FnHOk P w K mg base CX0 k f fd ps sp/\mg x=some (.ref f)/\W.keepIn K (.ref f)=true/\Binds K fd ps []
theorem Dfn.fnH{x:Str}{st:Stmt}{N ps:List Str}{k:Nat}{sp:Sp}(d:Dfn K mg x st ps)(S:FnScope N ps (defScope st))(len:∀ vs H Q E,sp vs H Q E->vs.length=ps.length)
 (hbody:∀(f:Addr) (cdv:Value) (A:Around) (outer:List Env) (s:Shared) (H:Hp) (vs:List V) (Q:VK) (E:XK),RoomH k (A.deeper (envOfC x (defScope st) s.heap.objs.size f cdv))->sp vs H Q E ->
  ∃ t,Bx (PSs (Cx.wild (cxOf CX0 P w K mg base N x (defScope st) f cdv A outer s H E)).nox (defBody st) t)/\t { nx:=fun _ H'=>Q .non H',rt:=Q } (start N vs) H):FnH P w K mg base x (k+1) ps sp:=by
 obtain⟨f,fd,F,hm,hb⟩:=d.ex;exact⟨f,fd,fun_okH F S len (hbody f),hm,F.kp,hb⟩
end
section
variable{X:Cx}{k:Nat}{f:Addr}{fd:FuncData}{ps:List Str}{sp:Sp}{x:Str}{p pos:Pos}{e:Expr}{es:List Expr}{t:TA}
theorem pe_callH(F:FnHOk X.prog X.w X.K X.mg X.base CX0 k f fd ps sp)(hr:RoomH k X.A)(hg:Gl X x)(hm:X.mg x=some (.ref f))(hk:W.keepIn X.K (.ref f)=true)(hb:Binds X.K fd ps [])
 (ha:PA X (e::es) t) (hdb:(x == ("__debug__":Str))=false) (he:starEach (e::es) X.env=(false,eval e X.env)::starEach es X.env) (hpl:(backTo pos (starEach es X.env)).any (·.1)=false) :
 PE X (.Call (.Name x p) (e::es) [] pos) (tCall sp [] E0 t):=by
 intro pins s σ H Q I h;refine wpAny_Call_Name_kw (ld_glob I hg hm ?_ hdb);refine W.callWith_K (h₀:=X.base) I.ok.mod.kin hk (thn (ha pos pins s σ H _ I h) fun us s1 ⟨vs,H1,I1,r,q⟩=>⟨I1.kIn,?_⟩) he hpl;have r2:Vals (vs++[]) (us++[]):=r.append .nil;have hl:(us++[]).length=ps.length:=by rw[← r2.length];exact F.len _ _ _ _ q
 refine wpAny_call (codeAny_mono (F.run X.A X.stack s1 H1 ⟨us,[]⟩ (us++[]) (vs++[]) Q E0 hr I1.env0 (hb s1 us I1.kIn hl) r2 q) fun r s' hq=>?_);cases r with
 | error e=>exact False.elim hq
 | ok fl=>
   cases fl with
   | ret u=>exact I1.after hq
   | next=>exact False.elim hq
   | brk=>exact False.elim hq
   | cont=>exact False.elim hq
theorem B.callH(F:FnH X.prog X.w X.K X.mg X.base x k ps sp)(hr:RoomH k X.A)(ha:Bx (PA X (e::es) t))(hg:Gl X x:=by rfl)(hdb:(x == ("__debug__":Str))=false:=by decide)(h1:plainE e=true:=by rfl)(h2:es.all plainE=true:=by rfl):Bx (PE X (.Call (.Name x p) (e::es) [] pos) (tCall sp [] E0 t)):=by
 obtain⟨f,fd,G,hmt,hkp,b⟩:=F.ex;exact⟨pe_callH G hr hg hmt hkp b ha.out hdb (star_of h1) (star_any h2)⟩
end
section
variable{P:Program}{w:World}{K:W.Frag}{mg:Str->Option Value}{base:Heap}
theorem B.methX{N:List Str}{qual:Str}{scope:Scope}{f:Addr}{cd:Value}{A:Around}{outer:List Env}{s₀:Shared}{H₀:Hp}{E:XK}{o e:Expr}{es:List Expr}{ta:TE}{t:TA}{C:Addr}{m:Str}{k:Nat}{ps:List Str}{sp:Sp}{apos pos:Pos}
 (he:Bx (PE (cxOf (CXr P w) P w K mg base N qual scope f cd A outer s₀ H₀ E) o ta)) (c:Cls K C) (M:MtX P w K mg base C m k ps sp) (hr:Room k (cxOf (CXr P w) P w K mg base N qual scope f cd A outer s₀ H₀ E).A) (ha:Bx (PA (cxOf (CXr P w) P w K mg base N qual scope f cd A outer s₀ H₀ E) (e::es) t)) (h1:plainE e=true:=by rfl) (h2:es.all plainE=true:=by rfl)
 {pl:Sem Bool} (ht':eval (.Call (.Attribute o m apos) (e::es) [] pos) (cxOf (CXr P w) P w K mg base N qual scope f cd A outer s₀ H₀ E).env=(do
  let ov ← eval o (cxOf (CXr P w) P w K mg base N qual scope f cd A outer s₀ H₀ E).env
  standAt apos.atName
  let(fv,first) ← holding [ov] (getMethod ov m pl)
  callWith pos fv first (backTo pos (starEach (e::es) (cxOf (CXr P w) P w K mg base N qual scope f cd A outer s₀ H₀ E).env)) (backToKw pos (keywordEach [] (cxOf (CXr P w) P w K mg base N qual scope f cd A outer s₀ H₀ E).env))):=by rfl) :
 Bx (PE (cxOf (CXr P w) P w K mg base N qual scope f cd A outer s₀ H₀ E) (.Call (.Attribute o m apos) (e::es) [] pos) (tMeth C m sp [] E ta t)):=by
 obtain⟨fa,fd,G,hm,b⟩:=M.ex;exact⟨pe_meth he.out c hm G hr b .nil pass_r ha.out (star_of h1) (star_any h2) ht'⟩
end
noncomputable def TB(X:Cx)(body:List Stmt)(tb:XK->(Hp->Prop)->L2.St->Hp->Prop):Prop:=
 ∀(xe':Value->Shared->Prop) (pins:List (Addr×Obj)) (σ:L2.St) (E:XK),PassAt (CXr X.prog X.w) (X.wish xe') pins σ E -> ∀ s H (Q:Hp->Prop),L2.Inv (X.wish xe') pins σ H s->tb E Q σ H->wpAny (model X.prog X.w) X.A (execs body X.env) (fun fl s'=>fl=.next /\ ∃ H',L2.Inv (X.wish xe') pins σ H' s'/\Q H') xe' s
section
variable{X:Cx}{k:Nat}{C:Addr}{ps:List Str}{sp:Sp}{x m:Str}{p cpos apos:Pos}{e o c:Expr}{es:List Expr}{ta:TE}{t:TA}{bpos pos:Pos}{b1 b2:List Stmt}{t1 t2:XK->(Hp->Prop)->L2.St->Hp->Prop}{tc:TT}
theorem tb_expr{e0:Expr}{te:XK->TE}(hev:∀(xe':Value->Shared->Prop) (pins:List (Addr×Obj)) (σ:L2.St) (E:XK),PassAt (CXr X.prog X.w) (X.wish xe') pins σ E -> ∀ s H Q,L2.Inv (X.wish xe') pins σ H s->te E σ H Q->wpAny (model X.prog X.w) X.A (eval e0 X.env) (EP (X.wish xe') pins σ Q) xe' s)
 (hsw:swapsWith e0 none bpos.line X.env=pure false):TB X [.Expr e0 bpos] (fun E Q σ H=>te E σ H fun _ H1=>Q H1):=by
 intro xe' pins σ E hx s H Q I h;refine wpAny_execs_cons (thn (wpAny_Expr_any (Q:=fun fl s'=>fl=.next /\ ∃ H',L2.Inv (X.wish xe') pins σ H' s'/\Q H') (thn (hev xe' pins σ E hx s H _ I h) fun v s1 ⟨x,H1,I1,r1,q1⟩=>⟨rfl,H1,I1,q1⟩) I.unwish.quiet hsw) fun fl s1 zz=>?_);obtain⟨e,q⟩:=zz;subst e;exact wpAny_execs_nil ⟨rfl,q⟩
theorem tb_if(hc:∀ xe',PT (X.wish xe') c tc)(h1:TB X b1 t1)(h2:TB X b2 t2):TB X [.If c b1 b2 pos] (fun E Q σ H=>tc σ H fun b H1=>if b=true then t1 E Q σ H1 else t2 E Q σ H1):=by
 intro xe' pins σ E hx s H Q I h;refine wpAny_execs_cons (thn (Q:=fun fl s'=>fl=.next /\ ∃ H',L2.Inv (X.wish xe') pins σ H' s'/\Q H') (wpAny_If (thn (hc xe' pins s σ H _ I h) fun d s1 ⟨H1,I1,q1⟩=>?_)) fun fl s1 ⟨e,q⟩=>?_)
 · cases d with
   | true=>exact h1 xe' pins σ E hx s1 H1 Q I1 q1
   | false=>exact h2 xe' pins σ E hx s1 H1 Q I1 q1
 subst e;exact wpAny_execs_nil ⟨rfl,q⟩
theorem B.tbIf(hc:∀ xe',Bx (PT (X.wish xe') c tc))(h1:Bx (TB X b1 t1))(h2:Bx (TB X b2 t2)):Bx (TB X [.If c b1 b2 pos] (fun E Q σ H=>tc σ H fun b H1=>if b=true then t1 E Q σ H1 else t2 E Q σ H1)):=
 ⟨tb_if (fun xe'=>(hc xe').out) h1.out h2.out⟩
theorem B.tbM(he:∀ xe',Bx (PE (X.wish xe') o ta))(c:Cls X.K C)(M:MtX X.prog X.w X.K X.mg X.base C m k ps sp)(hr:Room k X.A)(ha:∀ xe',Bx (PA (X.wish xe') (e::es) t))
 (hsw:swapsWith (.Call (.Attribute o m apos) (e::es) [] cpos) none bpos.line X.env=pure false:=by rfl) (h1:plainE e=true:=by rfl) (h2:es.all plainE=true:=by rfl)
 {pl:Sem Bool} (ht':eval (.Call (.Attribute o m apos) (e::es) [] cpos) X.env=(do
  let ov ← eval o X.env
  standAt apos.atName
  let(f,first) ← holding [ov] (getMethod ov m pl)
  callWith cpos f first (backTo cpos (starEach (e::es) X.env)) (backToKw cpos (keywordEach [] X.env))):=by rfl) :
 Bx (TB X [.Expr (.Call (.Attribute o m apos) (e::es) [] cpos) bpos] (fun E Q σ H=>tMeth C m sp [] E ta t σ H fun _ H1=>Q H1)):=by
 obtain⟨f,fd,G,hmt,b⟩:=M.ex;exact⟨tb_expr (te:=fun E=>tMeth C m sp [] E ta t) (fun xe' pins σ E hx s H Q I h=>ev_meth (X:=X.wish xe') (he xe').out c hmt G hr b .nil hx (ha xe').out I h (star_of h1) (star_any h2) ht') hsw⟩
theorem ev_make{f:Addr}{fd:FuncData}{E:XK}{pins:List (Addr×Obj)}{σ:L2.St}{H:Hp}{s:Shared}{Q:VK}(M:Mk X.K C f)(F:FnOk X.prog X.w X.K X.mg X.base (CXr X.prog X.w) k f fd ps sp)(hr:Room (k+1) X.A)(hg:Gl X x)(hm:X.mg x=some (.ref C))(hb:Binds X.K fd ps [])
 (hx:PassAt (CXr X.prog X.w) X pins σ E) (ha:PA X (e::es) t) (I:L2.Inv X pins σ H s) (h:tMake C sp [] E t σ H Q) (hdb:(x == ("__debug__":Str))=false) (he:starEach (e::es) X.env=(false,eval e X.env)::starEach es X.env) (hpl:(backTo cpos (starEach es X.env)).any (·.1)=false) :
 wpAny (model X.prog X.w) X.A (eval (.Call (.Name x p) (e::es) [] cpos) X.env) (EP X pins σ Q) X.xe s:=by
 refine wpAny_Call_Name_kw (ld_glob I hg hm ?_ hdb);refine W.callWith_K (h₀:=X.base) I.ok.mod.kin M.kp (thn (ha cpos pins s σ H _ I h) fun us s1 ⟨vs,H1,I1,r,q⟩=>⟨I1.kIn,?_⟩) he hpl;have hq:=q (s1.heap.objs.size+1) s1.heap.objs.size (I1.hok.fresh (Nat.le_succ _)) (I1.hok.fresh (Nat.le_refl _)) (Nat.ne_of_lt (Nat.lt_succ_self _));have I2:=L2.Inv.made (C:=C) I1;have r2:Vals (V.ref (s1.heap.objs.size+1)::(vs++[])) (Value.ref (s1.heap.objs.size+1)::(us++[])):=.cons rfl (r.append .nil);have hl:(Value.ref (s1.heap.objs.size+1)::us++[]).length=ps.length:=(r2.length.symm.trans (F.len _ _ _ _ hq):_);refine wpAny_call (make_map (f:=f) I1.kIn M.makes M.init (beq_iff_eq.mp M.fn) (codeAny_mono (F.run _ X.stack _ _ ⟨Value.ref (s1.heap.objs.size+1)::us,[]⟩ (Value.ref (s1.heap.objs.size+1)::(us++[])) _ _ E (hr.make C us []) (I2.env0.make C us []) (by rw[← List.cons_append];exact hb _ (Value.ref (s1.heap.objs.size+1)::us) I2.kIn hl) r2 hq) fun r s' hq'=>?_))
 cases r with
 | error e=>exact hx _ _ e s' I2 hq'
 | ok fl=>
   cases fl with
   | ret u=>
     obtain⟨v,H',I3,rv,ev,q3⟩:=I2.after hq';subst ev;exact⟨rv,⟨V.ref (s1.heap.objs.size+1),H',I3,rfl,q3⟩⟩
   | next=>exact False.elim hq'
   | brk=>exact False.elim hq'
   | cont=>exact False.elim hq'
theorem B.tbK(M:MkrX X.prog X.w X.K X.mg X.base C x k ps sp)(hr:Room (k+1) X.A)(ha:∀ xe',Bx (PA (X.wish xe') (e::es) t))(hg:Gl X x:=by rfl)(hdb:(x == ("__debug__":Str))=false:=by decide)
 (hsw:swapsWith (.Call (.Name x p) (e::es) [] cpos) none bpos.line X.env=pure false:=by rfl) (h1:plainE e=true:=by rfl) (h2:es.all plainE=true:=by rfl) :
 Bx (TB X [.Expr (.Call (.Name x p) (e::es) [] cpos) bpos] (fun E Q σ H=>tMake C sp [] E t σ H fun _ H1=>Q H1)):=by
 obtain⟨f,fd,G,mk,hm,b⟩:=M.ex;exact⟨tb_expr (te:=fun E=>tMake C sp [] E t) (fun xe' pins σ E hx s H Q I h=>ev_make (X:=X.wish xe') mk G hr hg hm b hx (ha xe').out I h hdb (star_of h1) (star_any h2)) hsw⟩
end
section
variable{X:Cx}
noncomputable def tTryB(K:W.Frag)(tb:XK->(Hp->Prop)->L2.St->Hp->Prop)(CB:Addr)(i:Nat)(ts:TS):TS:=fun D σ H=>
 tb (fun cls _ H'=>∃ C,cls=.ref C/\W.exmOne K (.ref C) (.ref CB)=some true /\ ∀ ea,H' ea=none->ts { nx:=fun σ2 H2=>D.nx (σ2.set i none) H2,rt:=fun _ _=>False } (σ.set i (some (.ref ea))) (upd H' ea (excO ea C))) (fun H1=>D.nx σ H1) σ H
theorem ps_tryB{body:List Stmt}{tb:XK->(Hp->Prop)->L2.St->Hp->Prop}{cx n:Str}{CB:Addr}{i:Nat}{b₀:Stmt}{suite:List Stmt}{ts:TS}{np hpos pos:Pos}
 (hex:X.ex=[]) (hstk:X.stack=X.env::X.outer) (hfr:X.env.frame=some X.env.locals) (hN:X.N.Nodup) (hi:X.N[i]?=some n) (hk:X.env.scope.names.lookup n=some .local)
 (hg:Gl X cx) (hm:X.mg cx=some (.ref CB)) (hd:(cx == ("__debug__":Str))=false) (hb:TB X body tb) (hs:∀ ea,PSs (Cx.held X ea).nox (b₀ :: suite) ts) :
 PS X (.Try body [.ExceptHandler (some (.Name cx np)) (some n) (b₀ :: suite) hpos] [] [] pos) (tTryB X.K tb CB i ts):=by
 intro pins s σ H D I h;refine wpAny_Try_except ?_;refine wpAny_mono (hb _ pins σ _ ?_ s H _ (I.wish _) h) (fun fl s1 ⟨e,H1,I1,q⟩=>?_) fun _ _ z=>z
 · intro H1 s1 e s' I1 hc
   obtain⟨ea,C,t,B,H',rfl,L,C',eC,hsub,hsuite⟩:=hc;cases eC;have I1:=I1.unwish;have hst:X.stack=X.env::X.outer:=hstk;have L:Lies X.prog X.w X.stack H1 s1 s' ea C t B H':=L;have fl:Heap.FlyingW B (X.env::X.outer) ea (.ref C) (.ref t) s'.heap:=by rw[← hst];exact L.fly
   have frm:X.A.frames=some (X.env::X.outer):=by rw[← hst];exact I1.ok.frames
   have back:∀{h6:Heap}{tk:Nat},B.StaysIn h6->s'.heap.UpToSlots h6->L2.Inv X pins σ H' { s' with heap:=h6,toks:=tk }:=fun {h6 tk} hB sm=>
    I1.call' (s':={ s' with heap:=h6,toks:=tk }) L.os (L.un hB sm) (L.hok.kept hB) L.bare fun b z=>absurd z (by simp)
   show wpAny _ _ (noteFrame (.ref ea) X.env) _ _ _;refine wpAny_looks_onW frm hfr fl fun h4 held4 sm4=>?_;refine wpAny_landsW held4 fun h5 fl5 sm5=>?_;have sm45:=sm4.trans sm5;have I5:=back (tk:=s'.toks) fl5.1 sm45;have I5h:=inv_held I5 ea;refine wpAny_handleBy_cons (codeAny_handlers_test (ld_glob (X:=Cx.held X ea) I5h hg hm ?_ hd)) (by intro q;cases q)
   have LT:W.Looks (model X.prog X.w) h5 (typeOf (.ref ea)) (.ref C):=by
    obtain⟨ob,hob,hc⟩:=fl5.there;rw[← hc];exact(W.Looks.ld hob).andThen .now
   refine W.exm_one (K:=X.K) I5.kIn LT hsub _ _ _ _ (fun _ _ e=>e) ?_;refine codeAny_handlers_suite_as ?_;refine lands_againW fl5 fun h6 fl6 sm6=>?_;have I6:=back (tk:=s'.toks) fl6.1 (sm45.trans sm6);have new:=L.new;have I6t:L2.Inv X pins σ (upd H' ea (excO ea C)) { s' with heap:=h6,toks:=s'.toks }:=by
    refine inv_track I6 L.untracked ?_ ?_ ?_ ?_ (excO_ok ?_)
    · cases e:X.s₀.heap.get? ea with
      | none=>rfl
      | some o=>
        obtain⟨o',e'⟩:=I1.base.there ea o e (by rw[hex];simp)
        rw[new]at e';cases e'
    · rintro rfl
      obtain⟨m,⟨oL,_,_,hoL,_⟩,_⟩:=I1.loc;rw[new]at hoL;cases hoL
    · rintro x c e rfl
      obtain⟨v,o,q,_⟩:=I1.cell x _ e;rw[new]at q;cases q
    · rintro p hp z
      have:=(I1.pin p hp).1;rw[z,new]at this;cases this
    exact fl6.there
   have I6h:=inv_held I6t ea;refine store_ok (X:=Cx.held X ea) (v:=.ref ea) I6h hN hi (.inl hk) rfl (fun s7 I7=>?_) (.inr hk);have hq:=hsuite ea L.untracked;refine wpAny_mono (hs ea pins s7 _ _ _ (I7.wish _) hq) (fun flw s8 q8=>?_) fun _ _ z=>False.elim z;cases flw with
   | next=>
     obtain⟨σ8,H8,I8,q⟩:=q8;have I8:L2.Inv X pins σ8 H8 s8:=inv_unheld (fun z=>I1.ok.hd z) (L2.Inv.unwish I8);exact name_gone I8 hN hi hk fun s9 I9=>⟨_,H8,I9,q⟩
   | brk=>obtain⟨_,_,_,q⟩:=q8;exact q.elim
   | cont=>obtain⟨_,_,_,q⟩:=q8;exact q.elim
   | ret u=>obtain⟨_,_,_,_,_,q⟩:=q8;exact q.elim
 subst e;exact wpAny_execs_nil ⟨σ,H1,I1.unwish,q⟩
theorem B.tryB{body:List Stmt}{tb:XK->(Hp->Prop)->L2.St->Hp->Prop}{cx n:Str}{CB:Addr}{i:Nat}{b₀:Stmt}{suite:List Stmt}{ts:TS}{np hpos pos:Pos}(hb:Bx (TB X body tb))(hm:X.mg cx=some (.ref CB))(hN:X.N.Nodup)(hs:∀ ea,Bx (PSs (Cx.held X ea).nox (b₀ :: suite) ts))
 (hi:X.N[i]?=some n:=by rfl) (hk:X.env.scope.names.lookup n=some .local:=by rfl) (hex:X.ex=[]:=by rfl) (hstk:X.stack=X.env::X.outer:=by rfl) (hfr:X.env.frame=some X.env.locals:=by rfl) (hg:Gl X cx:=by rfl) (hd:(cx == ("__debug__":Str))=false:=by decide) :
 Bx (PS X (.Try body [.ExceptHandler (some (.Name cx np)) (some n) (b₀ :: suite) hpos] [] [] pos) (tTryB X.K tb CB i ts)):=⟨ps_tryB hex hstk hfr hN hi hk hg hm hd hb.out fun ea=>(hs ea).out⟩
end
section
variable{X:Cx}
theorem vals_bls:∀{bs:List Bool}{us:List Value},Vals (bs.map V.bl) us->us=bs.map Value.bool
 | [],_,.nil=>rfl
 | b::bs,_,.cons r t=>by
   obtain rfl:=r;rw[vals_bls t];rfl
theorem datv_bls{K:W.Frag}{H:Hp}:∀ bs:List Bool,DatVs K H (bs.map V.bl) (bs.map PyData.bool)
 | []=>.nil
 | b::bs=>.cons (.bl b) (datv_bls bs)
theorem lay_bls:∀ bs:List Bool,PyData.canLayAll0 (bs.map PyData.bool)=true
 | []=>rfl
 | b::bs=>by
   show(true && _)=true;rw[lay_bls bs];rfl
noncomputable def rCountB:V->List V->Hp->VK->Prop:=fun x vs H Q=>∃(l:Addr) (bs:List Bool) (b:Bool),x=.ref l/\vs=[.bl b]/\H l=some (.lst (bs.map V.bl))/\Q (.int (bs.count b:Nat)) H
noncomputable def rIndexB:V->List V->Hp->VK->Prop:=fun x vs H Q=>∃(l:Addr) (bs:List Bool) (b:Bool) (j:Nat),x=.ref l/\vs=[.bl b]/\H l=some (.lst (bs.map V.bl))/\bs.findIdx? (· == b)=some j/\Q (.int j) H
theorem eqv_bl(a b:Bool):PyData.eqv (.bool a) (.bool b)=(a == b):=by cases a <;> cases b <;> rfl
theorem read_bl{h:Heap}(a b:Bool)(r:∃ as,Reads h (.bool a) (.bool a) as):PyData.eqv (SeqAt.readOf h (.bool a)) (.bool b)=(a == b):=by
 obtain⟨as,r⟩:=r;rw[SeqAt.readOf_eq rfl r];exact eqv_bl a b
theorem mt_countB(hu:X.A.units+64 < cLine):MtM X "list.count" rCountB:=by
 intro pins s σ H x vs v us Q I rx rv h;obtain⟨l,bs,b,rfl,rfl,hH,q⟩:=h;cases rx;obtain⟨u,rfl,ru⟩:=rv.one;obtain rfl:u=Value.bool b:=ru;obtain⟨z,its,n,r,hl,e⟩:=I.lstM hH;obtain⟨as,r1⟩:=reads_of I (.bl b:DatV X.K H (V.bl b) (.bool b)) (show RelV (V.bl b) (Value.bool b)from rfl);obtain⟨bs',r2⟩:=reads_all I (datv_bls bs) r;have hrd:∀ a,∃ as,Reads s.heap (.bool a) (.bool a) as:=fun a=>reads_of I (.bl a:DatV X.K H (V.bl a) (.bool a)) (show RelV (V.bl a) (Value.bool a)from rfl);have ei:=vals_bls r;have heq:∀ A:Around,A.units+62 < cLine -> ∀ y,y∈its.toArray->SeqAt.EqAt A.in1 s y (.bool b) (PyData.eqv (SeqAt.readOf s.heap y) (.bool b)):=fun A hA=>
  SeqAt.items_eqAt (A:=A) (vs:=its.toArray) (by simpa using r2) r1 (lay_bls bs) rfl (by have:=Nat.min_le_right (PyData.depthAll (bs.map PyData.bool)) (PyData.bool b).depth;have:(PyData.bool b).depth=0:=rfl;omega)
 refine call_meets F.slot_list_count ⟨_,e,rfl⟩ F.entry_list_count (F.args_list_count_2 _ _) (SeqAt.list_countAt l its.toArray n _ _ (.bool b) (fun y=>PyData.eqv (SeqAt.readOf s.heap y) (.bool b))) ⟨e,fun y hy=>heq _ (by omega) y hy,?_⟩
 refine⟨.int _,H,I.kept (t':=s.toks+1) (fun b o e=>e),⟨_,rfl⟩,?_⟩;have:its.toArray.toList.countP (fun y=>PyData.eqv (SeqAt.readOf s.heap y) (.bool b))=bs.count b:=by
  rw[ei];show(bs.map Value.bool).countP _=_;rw[List.countP_map];exact congrFun (congrArg List.countP (funext fun a=>read_bl a b (hrd a))) bs
 rw[this];exact q
theorem mt_indexB(hu:X.A.units+64 < cLine):MtM X "list.index" rIndexB:=by
 intro pins s σ H x vs v us Q I rx rv h;obtain⟨l,bs,b,j,rfl,rfl,hH,hj,q⟩:=h;cases rx;obtain⟨u,rfl,ru⟩:=rv.one;obtain rfl:u=Value.bool b:=ru;obtain⟨z,its,n,r,hl,e⟩:=I.lstM hH;obtain⟨as,r1⟩:=reads_of I (.bl b:DatV X.K H (V.bl b) (.bool b)) (show RelV (V.bl b) (Value.bool b)from rfl);obtain⟨bs',r2⟩:=reads_all I (datv_bls bs) r;have hrd:∀ a,∃ as,Reads s.heap (.bool a) (.bool a) as:=fun a=>reads_of I (.bl a:DatV X.K H (V.bl a) (.bool a)) (show RelV (V.bl a) (Value.bool a)from rfl);have ei:=vals_bls r;have heq:∀ A:Around,A.units+62 < cLine -> ∀ y,y∈its.toArray->SeqAt.EqAt A.in1 s y (.bool b) (PyData.eqv (SeqAt.readOf s.heap y) (.bool b)):=fun A hA=>
  SeqAt.items_eqAt (A:=A) (vs:=its.toArray) (by simpa using r2) r1 (lay_bls bs) rfl (by have:=Nat.min_le_right (PyData.depthAll (bs.map PyData.bool)) (PyData.bool b).depth;have:(PyData.bool b).depth=0:=rfl;omega)
 obtain⟨h1,h2,h3⟩:=List.findIdx?_eq_some_iff_getElem.mp hj;have hlb:its.length=bs.length:=by rw[ei,List.length_map]
 have hz:bs.length<=sizeLine:=by rw[List.length_map]at z;exact z
 have lim:sizeLine=16777216:=sizeLine_eq;refine call_meets F.slot_list_index ⟨_,e,rfl⟩ F.entry_list_index (F.args_list_index_2 _ _) (SeqAt.list_indexAt l its.toArray n _ _ (.bool b) (fun y=>PyData.eqv (SeqAt.readOf s.heap y) (.bool b)) j (by rw[List.size_toArray,hlb];exact h1) (by omega) ?_ (fun m hm hlt=>?_)) ⟨e,fun y hy=>heq _ (by omega) y hy,?_⟩
 · subst ei
   simp only[List.getElem_toArray,List.getElem_map];exact(read_bl _ b (hrd _)).trans h2
 · subst ei
   simp only[List.getElem_toArray,List.getElem_map];refine(read_bl _ b (hrd _)).trans ?_;have:=h3 m hlt
   simpa using this
 exact⟨.int _,H,I.kept (t':=s.toks+1) (fun b o e=>e),⟨_,rfl⟩,q⟩
end
end SW
namespace K
open PySem PySem.Spec PyProof.Rows L2 SW
end K
namespace SW
open PySem PySem.Spec PyProof.Rows L2
theorem wVarA{σ:L2.St}{H:Hp}{Q:VK}{v:V}{i:Nat}(h:Q v H)(e:σ[i]?=some (some v):=by with_unfolding_all exact rfl):tVar i σ H Q:=⟨v,e,h⟩
theorem wModA{H:Hp}{Q:VK}{g:Int->Int->V}{i j:Int}(h:Q (g i j) H)(c:0 < j:=by with_unfolding_all omega):rI (fun _ j=>0 < j) g (.int i) (.int j) H Q:=wMod c h
theorem wDivLA{H:Hp}{Q:VK}{g:Int->Int->V}{i j:Int}(h:Q (g i j) H)(c:0 < j/\j < 18446744073709551616:=by with_unfolding_all omega):rI CDivL g (.int i) (.int j) H Q:=wDivL c h
theorem wMulA{H:Hp}{Q:VK}{g:Int->Int->V}{i j:Int}(h:Q (g i j) H)(c:(-18446744073709551616 < i/\i < 18446744073709551616)∨(-18446744073709551616 < j/\j < 18446744073709551616):=by with_unfolding_all omega):rI CMul g (.int i) (.int j) H Q:=wMul c h
theorem wPowA{H:Hp}{Q:VK}{g:Int->Int->V}{i j:Int}(h:Q (g i j) H)(c:0<=j/\j<=1000000/\i.natAbs < 2 ^ 64:=by with_unfolding_all decide):rI CPow g (.int i) (.int j) H Q:=wPow c h
theorem wIxLA{K:W.Frag}{H:Hp}{Q:VK}{v:V}{p:Addr}{xs:List V}{i:Int}(h:Q v H)(e:H p=some (.lst xs):=by first | with_reducible assumption | exact upd_same)(a:atI xs i=some v:=by with_unfolding_all exact rfl):rIxL K (.ref p) (.int i) H Q:=wIxL e a h
theorem wIxTA{K:W.Frag}{H:Hp}{Q:VK}{v:V}{p:Addr}{xs:List V}{i:Int}(h:Q v H)(e:H p=some (.tup xs):=by first | with_reducible assumption | exact upd_same)(a:atI xs i=some v:=by with_unfolding_all exact rfl):rIxT K (.ref p) (.int i) H Q:=wIxT e a h
theorem wSetLA{H:Hp}{v:V}{p:Addr}{xs:List V}{i:Int}{j:Nat}{Q:Hp->Prop}(h:Q (upd H p (.lst (xs.set j v))))(e:H p=some (.lst xs):=by first | with_reducible assumption | exact upd_same)(hj:ixN xs.length i=some j:=by with_unfolding_all exact rfl):rSetL (.ref p) (.int i) v H Q:=wSetL e hj h
theorem wGoA{N N':L2.St->Hp->Prop}{σ:L2.St}{H:Hp}(h:N' σ H)(e:N=N':=by with_reducible assumption):N σ H:=wGo e h
end SW
namespace K
noncomputable section
open PySem PySem.Spec PyProof.Rows L2 SW
local macro_rules | `(tactic| walk_at "W0")=>do
 let h ← `(?_)
 let l ← `(fun _ _=>?_)
 let t ← ("wCons wNil wVarA".splitOn " ").foldrM (fun r t=>do
  let b ← `(tactic| with_reducible refine $(Lean.mkIdent (Lean.Name.mkStr `SW r)) $(if r == "wSeqC" || r == "wCut" then l else h))
  if r == "wIxLA" then `(tactic| first | (with_reducible show rIxL _ (V.ref _) (V.int _) _ _;$b:tactic) | $t:tactic)else if r == "wIxTA" then `(tactic| first | (with_reducible show rIxT _ (V.ref _) (V.int _) _ _;$b:tactic) | $t:tactic)else if r == "wSetLA" then `(tactic| first | (with_reducible show rSetL (V.ref _) (V.int _) _ _ _;$b:tactic) | $t:tactic)else `(tactic| first | $b:tactic | $t:tactic)) (← `(tactic| fail))
 `(tactic| repeat $t:tactic)
local macro_rules | `(tactic| walk_at "W1")=>do
 let h ← `(?_)
 let l ← `(fun _ _=>?_)
 let t ← ("wC wName wGoA".splitOn " ").foldrM (fun r t=>do
  let b ← `(tactic| with_reducible refine $(Lean.mkIdent (Lean.Name.mkStr `SW r)) $(if r == "wSeqC" || r == "wCut" then l else h))
  if r == "wIxLA" then `(tactic| first | (with_reducible show rIxL _ (V.ref _) (V.int _) _ _;$b:tactic) | $t:tactic)else if r == "wIxTA" then `(tactic| first | (with_reducible show rIxT _ (V.ref _) (V.int _) _ _;$b:tactic) | $t:tactic)else if r == "wSetLA" then `(tactic| first | (with_reducible show rSetL (V.ref _) (V.int _) _ _ _;$b:tactic) | $t:tactic)else `(tactic| first | $b:tactic | $t:tactic)) (← `(tactic| fail))
 `(tactic| repeat $t:tactic)
local macro_rules | `(tactic| walk_at "S")=>do
 let h ← `(?_)
 let l ← `(fun _ _=>?_)
 let t ← ("wFAug wSl wNoPart wPart wU wGoA".splitOn " ").foldrM (fun r t=>do
  let b ← `(tactic| with_reducible refine $(Lean.mkIdent (Lean.Name.mkStr `SW r)) $(if r == "wSeqC" || r == "wCut" then l else h))
  if r == "wIxLA" then `(tactic| first | (with_reducible show rIxL _ (V.ref _) (V.int _) _ _;$b:tactic) | $t:tactic)else if r == "wIxTA" then `(tactic| first | (with_reducible show rIxT _ (V.ref _) (V.int _) _ _;$b:tactic) | $t:tactic)else if r == "wSetLA" then `(tactic| first | (with_reducible show rSetL (V.ref _) (V.int _) _ _ _;$b:tactic) | $t:tactic)else `(tactic| first | $b:tactic | $t:tactic)) (← `(tactic| fail))
 return t
local macro_rules | `(tactic| walk_at "S")=>do
 let h ← `(?_)
 let l ← `(fun _ _=>?_)
 let t ← ("wUn wFld wSFld wMeth wMake wDGet1 wItems wDPut".splitOn " ").foldrM (fun r t=>do
  let b ← `(tactic| with_reducible refine $(Lean.mkIdent (Lean.Name.mkStr `SW r)) $(if r == "wSeqC" || r == "wCut" then l else h))
  if r == "wIxLA" then `(tactic| first | (with_reducible show rIxL _ (V.ref _) (V.int _) _ _;$b:tactic) | $t:tactic)else if r == "wIxTA" then `(tactic| first | (with_reducible show rIxT _ (V.ref _) (V.int _) _ _;$b:tactic) | $t:tactic)else if r == "wSetLA" then `(tactic| first | (with_reducible show rSetL (V.ref _) (V.int _) _ _ _;$b:tactic) | $t:tactic)else `(tactic| first | $b:tactic | $t:tactic)) (← `(tactic| fail))
 return t
local macro_rules | `(tactic| walk_at "S")=>do
 let h ← `(?_)
 let l ← `(fun _ _=>?_)
 let t ← ("wNext wFor wIList wRng1 wOr wChain wComp wInt1".splitOn " ").foldrM (fun r t=>do
  let b ← `(tactic| with_reducible refine $(Lean.mkIdent (Lean.Name.mkStr `SW r)) $(if r == "wSeqC" || r == "wCut" then l else h))
  if r == "wIxLA" then `(tactic| first | (with_reducible show rIxL _ (V.ref _) (V.int _) _ _;$b:tactic) | $t:tactic)else if r == "wIxTA" then `(tactic| first | (with_reducible show rIxT _ (V.ref _) (V.int _) _ _;$b:tactic) | $t:tactic)else if r == "wSetLA" then `(tactic| first | (with_reducible show rSetL (V.ref _) (V.int _) _ _ _;$b:tactic) | $t:tactic)else `(tactic| first | $b:tactic | $t:tactic)) (← `(tactic| fail))
 return t
local macro_rules | `(tactic| walk_at "S")=>do
 let h ← `(?_)
 let l ← `(fun _ _=>?_)
 let t ← ("wNil wCons wLst wTup wCall wCB wRet wDrop".splitOn " ").foldrM (fun r t=>do
  let b ← `(tactic| with_reducible refine $(Lean.mkIdent (Lean.Name.mkStr `SW r)) $(if r == "wSeqC" || r == "wCut" then l else h))
  if r == "wIxLA" then `(tactic| first | (with_reducible show rIxL _ (V.ref _) (V.int _) _ _;$b:tactic) | $t:tactic)else if r == "wIxTA" then `(tactic| first | (with_reducible show rIxT _ (V.ref _) (V.int _) _ _;$b:tactic) | $t:tactic)else if r == "wSetLA" then `(tactic| first | (with_reducible show rSetL (V.ref _) (V.int _) _ _ _;$b:tactic) | $t:tactic)else `(tactic| first | $b:tactic | $t:tactic)) (← `(tactic| fail))
 return t
local macro_rules | `(tactic| walk_at "S")=>do
 let h ← `(?_)
 let l ← `(fun _ _=>?_)
 let t ← ("wNot wNotV wAndV wBl wIxLA wIxTA wSub wSetLA".splitOn " ").foldrM (fun r t=>do
  let b ← `(tactic| with_reducible refine $(Lean.mkIdent (Lean.Name.mkStr `SW r)) $(if r == "wSeqC" || r == "wCut" then l else h))
  if r == "wIxLA" then `(tactic| first | (with_reducible show rIxL _ (V.ref _) (V.int _) _ _;$b:tactic) | $t:tactic)else if r == "wIxTA" then `(tactic| first | (with_reducible show rIxT _ (V.ref _) (V.int _) _ _;$b:tactic) | $t:tactic)else if r == "wSetLA" then `(tactic| first | (with_reducible show rSetL (V.ref _) (V.int _) _ _ _;$b:tactic) | $t:tactic)else `(tactic| first | $b:tactic | $t:tactic)) (← `(tactic| fail))
 return t
local macro_rules | `(tactic| walk_at "S")=>do
 let h ← `(?_)
 let l ← `(fun _ _=>?_)
 let t ← ("wDivLA wMulA wPowA wEqI wNeI wIfS wTest wB".splitOn " ").foldrM (fun r t=>do
  let b ← `(tactic| with_reducible refine $(Lean.mkIdent (Lean.Name.mkStr `SW r)) $(if r == "wSeqC" || r == "wCut" then l else h))
  if r == "wIxLA" then `(tactic| first | (with_reducible show rIxL _ (V.ref _) (V.int _) _ _;$b:tactic) | $t:tactic)else if r == "wIxTA" then `(tactic| first | (with_reducible show rIxT _ (V.ref _) (V.int _) _ _;$b:tactic) | $t:tactic)else if r == "wSetLA" then `(tactic| first | (with_reducible show rSetL (V.ref _) (V.int _) _ _ _;$b:tactic) | $t:tactic)else `(tactic| first | $b:tactic | $t:tactic)) (← `(tactic| fail))
 return t
local macro_rules | `(tactic| walk_at "S")=>do
 let h ← `(?_)
 let l ← `(fun _ _=>?_)
 let t ← ("wSeqC wAsg wName wOp wC wVarA wI0 wModA".splitOn " ").foldrM (fun r t=>do
  let b ← `(tactic| with_reducible refine $(Lean.mkIdent (Lean.Name.mkStr `SW r)) $(if r == "wSeqC" || r == "wCut" then l else h))
  if r == "wIxLA" then `(tactic| first | (with_reducible show rIxL _ (V.ref _) (V.int _) _ _;$b:tactic) | $t:tactic)else if r == "wIxTA" then `(tactic| first | (with_reducible show rIxT _ (V.ref _) (V.int _) _ _;$b:tactic) | $t:tactic)else if r == "wSetLA" then `(tactic| first | (with_reducible show rSetL (V.ref _) (V.int _) _ _ _;$b:tactic) | $t:tactic)else `(tactic| first | $b:tactic | $t:tactic)) (← `(tactic| fail))
 return t
local macro_rules | `(tactic| walk_at "W")=>`(tactic| repeat walk_at "S")
def top(i:Nat):Stmt:=PySem.Challenge.pw_slowshift_k07_no_places_and_no_sizes.main.body.getD i (.Pass ⟨0,0,0,0⟩)
abbrev z26_:Stmt:=(top 0)
theorem z53_:FnScope ["k"] ["k"] (defScope z26_):=SW.fs
abbrev z12_:Stmt:=(top 9)
theorem z39_:FnScope ["thing"] ["thing"] (defScope z12_):=SW.fs
abbrev z11_:Stmt:=(top 10)
theorem z38_:FnScope ["thing"] ["thing"] (defScope z11_):=SW.fs
abbrev z24_:Stmt:=(top 13)
theorem z51_:FnScope ["key","mixer"] ["key","mixer"] (defScope z24_):=SW.fs
abbrev z25_:Stmt:=(top 14)
theorem z52_:FnScope ["mark","size"] ["mark","size"] (defScope z25_):=SW.fs
abbrev z0_:Stmt:=(inClass (top 16) 0)
theorem z27_:FnScope ["self","size","mixer"] ["self","size","mixer"] (defScope z0_):=SW.fs
abbrev z7_:Stmt:=(inClass (top 16) 1)
theorem z34_:FnScope ["self","key","worth","row","before"] ["self","key","worth"] (defScope z7_):=SW.fs
abbrev z2_:Stmt:=(inClass (top 16) 2)
theorem z29_:FnScope ["self","key"] ["self","key"] (defScope z2_):=SW.fs
abbrev z4_:Stmt:=(inClass (top 16) 3)
theorem z31_:FnScope ["self","key"] ["self","key"] (defScope z4_):=SW.fs
abbrev z8_:Stmt:=(inClass (top 16) 4)
theorem z35_:FnScope ["self","place"] ["self","place"] (defScope z8_):=SW.fs
abbrev z3_:Stmt:=(inClass (top 16) 5)
theorem z30_:FnScope ["self","place","told"] ["self","place"] (defScope z3_):=SW.fs
abbrev z10_:Stmt:=(inClass (top 16) 6)
theorem z37_:FnScope ["self"] ["self"] (defScope z10_):=SW.fs
abbrev z5_:Stmt:=(inClass (top 16) 7)
theorem z32_:FnScope ["self"] ["self"] (defScope z5_):=SW.fs
abbrev z6_:Stmt:=(inClass (top 16) 8)
theorem z33_:FnScope ["self","key"] ["self","key"] (defScope z6_):=SW.fs
abbrev z9_:Stmt:=(inClass (top 16) 9)
theorem z36_:FnScope ["self","key"] ["self","key"] (defScope z9_):=SW.fs
abbrev z1_:Stmt:=(inClass (top 16) 10)
theorem z28_:FnScope ["self","place"] ["self","place"] (defScope z1_):=SW.fs
abbrev z21_:Stmt:=(top 18)
theorem z48_:FnScope ["cell","low"] ["cell"] (defScope z21_):=SW.fs
abbrev z22_:Stmt:=(top 19)
theorem z49_:FnScope ["row","many","got"] ["row","many"] (defScope z22_):=SW.fs
abbrev z18_:Stmt:=(top 20)
theorem z45_:FnScope ["row","some"] ["row"] (defScope z18_):=SW.fs
abbrev z15_:Stmt:=(top 21)
theorem z42_:FnScope ["row","some"] ["row"] (defScope z15_):=SW.fs
abbrev z23_:Stmt:=(top 22)
theorem z50_:FnScope ["row"] ["row"] (defScope z23_):=SW.fs
abbrev z19_:Stmt:=(top 23)
theorem z46_:FnScope ["row","keys"] ["row","keys"] (defScope z19_):=SW.fs
abbrev z16_:Stmt:=(top 24)
theorem z43_:FnScope ["e","kinds"] ["e"] (defScope z16_):=SW.fs
abbrev z14_:Stmt:=(top 25)
theorem z41_:FnScope ["shelf","way","thing","kind","e"] ["shelf","way","thing"] (defScope z14_):=SW.fs
abbrev z17_:Stmt:=(top 26)
theorem z44_:FnScope ["shelf","size"] ["shelf","size"] (defScope z17_):=SW.fs
abbrev z20_:Stmt:=(top 27)
theorem z47_:FnScope ["row","shelf","size","odd","ahead","thing","sizes"] ["row","shelf","size"] (defScope z20_):=SW.fs
abbrev z13_:Stmt:=(top 28)
theorem z40_:FnScope ["script","sizes","size","cell","row","shelf","k"] ["script"] (defScope z13_):=SW.fs
structure Gs(K:W.Frag)(mg:Str->Option Value)(C CE CP CZ CR CV:Addr):Prop where
 c_MARKS:∃ t,mg "MARKS"=some (.int 65536 t)
 c_SIZES:∃ a,mg "SIZES"=some (.ref a) /\ ∀ H,SqT K H a [.int 4,.int 8,.int 16,.int 32,.int 64,.int 128,.int 256,.int 512,.int 1024,.int 2048,.int 4096]
 cl_Shelf:Cls K C
 n_Shelf_mixer:NoAttr K C "mixer"
 n_Shelf_rows:NoAttr K C "rows"
 n_Shelf_held:NoAttr K C "held"
 b_int:mg "int"=none
 b_bool:mg "bool"=none
 b_isinstance:mg "isinstance"=none
 b_range:mg "range"=none
 b_len:mg "len"=none
 b_list:mg "list"=none
 b_str:mg "str"=none
 b_ValueError:mg "ValueError"=none
 m_SlowError:mg "SlowError"=some (.ref CE)
 m_NoPlace:mg "NoPlace"=some (.ref CP)
 m_NoSize:mg "NoSize"=some (.ref CZ)
 m_NoRow:mg "NoRow"=some (.ref CR)
 m_NoState:mg "NoState"=some (.ref CV)
 e_NoPlace:SW.ErrC K mg "NoPlace" CP
 x_NoPlace:SW.ExcC K CP
 s_NoPlace:W.exmOne K (.ref CP) (.ref CE)=some true
 v_NoPlace:W.kitOne K (.ref CP) (.type "ValueError")=some true
 kn_NoPlace_NoSize:W.kitOne K (.ref CP) (.ref CZ)=some false
 kn_NoPlace_NoRow:W.kitOne K (.ref CP) (.ref CR)=some false
 kn_NoPlace_NoState:W.kitOne K (.ref CP) (.ref CV)=some false
 e_NoSize:SW.ErrC K mg "NoSize" CZ
 x_NoSize:SW.ExcC K CZ
 s_NoSize:W.exmOne K (.ref CZ) (.ref CE)=some true
 v_NoSize:W.kitOne K (.ref CZ) (.type "ValueError")=some true
 kn_NoSize_NoPlace:W.kitOne K (.ref CZ) (.ref CP)=some false
 kn_NoSize_NoRow:W.kitOne K (.ref CZ) (.ref CR)=some false
 kn_NoSize_NoState:W.kitOne K (.ref CZ) (.ref CV)=some false
-- ThV LamH S67 S69
section
variable{P:Program}{w:World}{K:W.Frag}{mg:Str->Option Value}{base:Heap}{C CE CP CZ CR CV:Addr}
theorem q14_(d:Dfn K mg "mark_of" z24_ ["key","mixer"])(g:Gs K mg C CE CP CZ CR CV):Fn P w K mg base "mark_of" 1 ["key","mixer"] spMark:=by
 refine d.fn z51_ (fun vs H Q E h=>?_) (fun f cdv A outer s H vs Q E hr h=>?_)
 · obtain⟨k,t,f,m,rfl,_⟩:=h
   rfl
 obtain⟨k,t,f,m,rfl,ht,hf,q⟩:=h;refine⟨_,(B.sone (B.ret (B.op op_mod (B.op op_add (B.op op_mul (B.v 0) (B.ix ix_tup (B.v 1) B.int)) (B.ix ix_tup (B.v 1) B.int)) (B.gint g.c_MARKS)))),?_⟩;walk_at "W";exact q
theorem q17_(d:Dfn K mg "place_of" z25_ ["mark","size"]):Fn P w K mg base "place_of" 1 ["mark","size"] spPlace:=by
 refine d.fn z52_ (fun vs H Q E h=>?_) (fun f cdv A outer s H vs Q E hr h=>?_)
 · obtain⟨k,t,rfl,_⟩:=h
   rfl
 obtain⟨m,z,rfl,hz,q⟩:=h;refine⟨_,(B.sone (B.ret (B.op op_mod (B.v 0) (B.v 1)))),?_⟩;walk_at "W";exact q
theorem q24_(d:Dfn K mg "is_whole" z12_ ["thing"])(g:Gs K mg C CE CP CZ CR CV):Fn P w K mg base "is_whole" 1 ["thing"] spWhole:=by
 refine d.fn z39_ (fun vs H Q E h=>?_) (fun f cdv A outer s H vs Q E hr h=>?_)
 · obtain⟨n,rfl,_⟩:=h
   rfl
 obtain⟨n,rfl,q⟩:=h;refine⟨_,(B.sone (B.ret (B.and (B.cB SW.call_isi g.b_isinstance SW.b_isinstance (B.cons (B.v 0) (B.cons (B.ty g.b_int SW.b_int) B.nil))) (B.one (B.not (B.cB SW.call_isi g.b_isinstance SW.b_isinstance (B.cons (B.v 0) (B.cons (B.ty g.b_bool SW.b_bool) B.nil)))))))),?_⟩;walk_at "W";refine SW.iIsi (.int n) isi_int_int ?_;walk_at "W";refine iteT ?_;walk_at "W";refine SW.iIsi (.int n) isi_int_bool ?_;walk_at "W";exact q
theorem q20_(d:Dfn K mg "is_size" z11_ ["thing"])(g:Gs K mg C CE CP CZ CR CV)(q2_:Fn P w K mg base "is_whole" 1 ["thing"] spWhole):Fn P w K mg base "is_size" 2 ["thing"] spIsSize:=by
 refine d.fn z38_ (fun vs H Q E h=>?_) (fun f cdv A outer s H vs Q E hr h=>?_)
 · obtain⟨n,rfl,_⟩:=h
   rfl
 obtain⟨n,rfl,hn,q⟩:=h;obtain⟨aS,hS,tS⟩:=g.c_SIZES;refine⟨_,(B.sone (B.ret (B.and (B.fn q2_ hr.up (B.cons (B.v 0) B.nil)) (B.one (B.cmpI op_in_seq (B.v 0) (B.gref hS)))))),?_⟩;walk_at "W";refine⟨_,rfl,?_⟩;walk_at "W";refine iteT ?_;walk_at "W";refine⟨aS,_,rfl,.inr (tS _),rfl,by decide,?_⟩
 rw[if_neg Bool.false_ne_true,inSizes hn];exact q
theorem q38_(d:Dk K mg C "Shelf" "Shelf.__init__" z0_ ["self","size","mixer"])(g:Gs K mg C CE CP CZ CR CV)(q1_:Fn P w K mg base "is_size" 2 ["thing"] spIsSize):Mkr P w K mg base C "Shelf" 3 ["self","size","mixer"] (spSInit C):=by
 refine d.mk' z27_ (fun vs H Q E h=>?_) (fun f cdv A outer s H vs Q E hr h=>?_)
 · obtain⟨x,t,dx,n,f,m,rfl,_⟩:=h
   rfl
 obtain⟨x,t,dx,n,f,m,rfl,hx,ht,bf,hn,q⟩:=h;have bn:=hn.bounds;refine⟨_,(B.scons (B.ifs (B.tnot (B.tval (B.fn q1_ hr.up (B.cons (B.v 1) B.nil)))) (B.sone B.never) B.snil)
  (B.scons (B.sfld (B.v 0) (B.v 2))
  (B.scons (B.sfld (B.v 0) (SW.B.comp [] ["place"] (SW.CompScope.of rfl rfl (by decide +kernel) (by decide +kernel) rfl trivial rfl rfl rfl) (by decide +kernel) (B.irange g.b_range (B.cons (B.v 1) B.nil)) (fun _ _ _ _=>B.dnew)))
  (B.sone (B.sfld (B.v 0) B.int))))),?_⟩
 walk_at "W";refine⟨n,rfl,hn,?_⟩;walk_at "W";refine iteF ?_;walk_at "W";refine SW.iSFld hx g.cl_Shelf g.n_Shelf_mixer (by show 0 < 1000;decide) ?_
 walk_at "W";refine⟨n,rfl,by omega,by omega,fun D hD=>?_⟩
 have nxt:x≠t:=ne_of hx ht (by intro z;cases z)
 have hD0:H D=none:=by
  by_cases e:D=x
  · subst e;rw[upd_same]at hD;cases hD
  rw[upd_ne e]at hD;exact hD
 have nxD:x≠D:=ne_of_none hx hD0;refine comp_rangeU (fun i σ' H'=>∃(ds:List Addr) (v:Option V),σ'=[v]/\ds.length=i/\H' D=some (.lst (ds.map V.ref))/\ds.Nodup/\(∀ y∈ds,H' y=some (.dK [])/\H y=none/\y≠D)/\H' x=some (.ins C dx (putF "mixer" (.ref t) [])) /\ ∀ b o,b≠x->H b=some o->H' b=some o)
  ?_ ?_ ?_
 · exact⟨[],none,rfl,rfl,upd_same,List.nodup_nil,fun y hy=>(List.not_mem_nil hy).elim,by rw[upd_ne nxD,upd_same],fun b o nb e=>by rw[upd_ne (ne_of_none e hD0),upd_ne nb];exact e⟩
 · rintro i σ' H' hi ⟨ds,v,rfl,hl,h1,nd,h2,h3,h4⟩
   intro y hy;have nyD:D≠y:=ne_of_none h1 hy;have nin:y∉ds:=fun z=>by
    have:=(h2 y z).1;rw[hy]at this;cases this
   have hy0:H y=none:=by
    by_cases e:y=x
    · subst e;rw[h3]at hy;cases hy
    cases e2:H y with
    | none=>rfl
    | some o=>rw[h4 y o e e2]at hy;cases hy
   refine CN.mk hi (ys:=ds.map V.ref) (by rw[upd_ne nyD];exact h1) (by rw[List.length_map];exact Nat.lt_of_le_of_lt (show ds.length<=4096 by omega) (by decide)) ⟨ds++[y],_,rfl,by rw[List.length_append,hl];rfl,?_,nd_snoc nd nin,?_,?_,?_⟩
   · rw[upd_same,List.map_append];rfl
   · intro z hz
     rcases List.mem_append.mp hz with hz | hz
     · obtain⟨a1,a2,a3⟩:=h2 z hz
       refine⟨?_,a2,a3⟩;rw[upd_ne a3,upd_ne (fun e:z=y=>nin (e ▸ hz))];exact a1
     rw[List.mem_singleton.mp hz];exact⟨by rw[upd_ne nyD.symm,upd_same],hy0,nyD.symm⟩
   · rw[upd_ne nxD,upd_ne (ne_of_none h3 hy)];exact h3
   intro b o nb e;rw[upd_ne (ne_of_none e hD0),upd_ne (ne_of_none (h4 b o nb e) hy)];exact h4 b o nb e
 rintro σ' H' ⟨ds,v,rfl,hl,h1,nd,h2,h3,h4⟩;walk_at "W";refine SW.iSFld h3 g.cl_Shelf g.n_Shelf_rows (by show 1 < 1000;decide) ?_
 walk_at "W";refine⟨x,C,dx,_,rfl,upd_same,g.cl_Shelf,g.n_Shelf_held,?_,?_⟩
 · have e1:=putF_len "rows" (V.ref D) (putF "mixer" (V.ref t) [])
   have e2:=putF_len "mixer" (V.ref t) [];have e3:([]:List (Str×V)).length=0:=rfl;omega
 have up:∀ b o o1 o2,b≠x->H' b=some o->upd (upd H' x o1) x o2 b=some o:=fun b o o1 o2 nb e=>by rw[upd_ne nb,upd_ne nb];exact e
 refine q _ (fun b=>b=x∨b=D∨b∈ds) ⟨t,D,ds,⟨⟨dx,?_⟩,up _ _ _ _ nxt.symm (h4 _ _ nxt.symm ht),bf,up _ _ _ _ nxD.symm h1,by rw[hl,List.length_replicate];rfl,nd,?_,?_,?_,?_⟩,fun b=>Iff.rfl⟩ ?_ ?_
 · rw[upd_same,sfl_mk,tot_rep];rfl
 · intro i y r e1 e2
   have hm:=List.mem_of_getElem? e1;have er:r=[]:=List.eq_of_mem_replicate (List.mem_of_getElem? e2);subst er;obtain⟨a1,a2,a3⟩:=h2 y hm;exact up _ _ _ _ (fun e=>by rw[e,hx]at a2;cases a2) a1
 · intro r hr
   rw[List.eq_of_mem_replicate hr];exact List.nodup_nil
 · rw[List.length_replicate];omega
 · rw[List.length_replicate];omega
 · intro b hb
   rcases hb with rfl | rfl | hb
   · exact .inl rfl
   · exact .inr hD0
   exact .inr (h2 b hb).2.1
 intro b o nb e;exact up _ _ _ _ nb (h4 b o nb e)
theorem q41_(d:Dm K C "place_with" "Shelf.place_with" z6_ ["self","key"])(g:Gs K mg C CE CP CZ CR CV)(q15_:Fn P w K mg base "mark_of" 1 ["key","mixer"] spMark)(q18_:Fn P w K mg base "place_of" 1 ["mark","size"] spPlace):Mt P w K mg base C "place_with" 2 ["self","key"] (spSPlace C):=by
 refine d.mt z33_ (fun vs H Q E h=>?_) (fun f cdv A outer s H vs Q E hr h=>?_)
 · obtain⟨p,k,f,m,R,F,rfl,_⟩:=h
   rfl
 obtain⟨p,k,f,m,R,F,rfl,⟨t,L,ds,X,hF⟩,q⟩:=h;obtain⟨dx,hp⟩:=X.ob;have hb:=X.pos;refine⟨_,(B.sone (B.ret (B.fn q18_ hr.up (B.cons (B.fn q15_ hr.up (B.cons (B.v 1) (B.cons (B.fld (B.v 0)) B.nil))) (B.cons (B.cB call_len_seq g.b_len SW.b_len (B.cons (B.fld (B.v 0)) B.nil)) B.nil))))),?_⟩;walk_at "W";refine SW.iFld hp g.cl_Shelf g.n_Shelf_mixer (sfl_mixer _ _ _) ?_;walk_at "W";refine wMark X.mx X.bm ?_;walk_at "W";refine SW.iFld hp g.cl_Shelf g.n_Shelf_rows (sfl_rows _ _ _) ?_;walk_at "W";refine SW.iLen (.inl (SqL.of X.rw)) ?_;walk_at "W";rw[List.length_map,X.len];refine wPlace (by omega) ?_
 rw[← plc_int hb];exact q
theorem q45_(d:Dm K C "row_with" "Shelf.row_with" z9_ ["self","key"])(g:Gs K mg C CE CP CZ CR CV)(q30_:Mt P w K mg base C "place_with" 2 ["self","key"] (spSPlace C)):Mt P w K mg base C "row_with" 3 ["self","key"] (spSRowW C):=by
 refine d.mt z36_ (fun vs H Q E h=>?_) (fun f cdv A outer s H vs Q E hr h=>?_)
 · obtain⟨p,k,f,m,R,t,L,ds,rfl,_⟩:=h
   rfl
 obtain⟨p,k,f,m,R,t,L,ds,rfl,X,q⟩:=h;obtain⟨dx,hp⟩:=X.ob;have hb:=X.pos;have S:Sh C H p f m R (fun b=>b=p∨b=L∨b∈ds):=⟨t,L,ds,X,fun b=>Iff.rfl⟩;obtain⟨y,hy,_⟩:=X.place k;refine⟨_,(B.sone (B.ret (B.ix ix_list (B.fld (B.v 0)) (B.meth (B.v 0) g.cl_Shelf q30_ hr.up (B.cons (B.v 1) B.nil))))),?_⟩;walk_at "W";refine SW.iFld hp g.cl_Shelf g.n_Shelf_rows (sfl_rows _ _ _) ?_;walk_at "W";refine wS S ⟨by decide +kernel,by decide +kernel,by decide +kernel⟩ ?_
 walk_at "W";refine wSPlace S ?_;refine wIxL X.rw (v:=.ref y) ?_ (q y hy);refine atI_nat ?_;rw[List.getElem?_map,hy]
 rfl
theorem q42_(d:Dm K C "put" "Shelf.put" z7_ ["self","key","worth"])(g:Gs K mg C CE CP CZ CR CV)(q33_:Mt P w K mg base C "row_with" 3 ["self","key"] (spSRowW C)):Mt P w K mg base C "put" 4 ["self","key","worth"] (spSPut C):=by
 refine d.mt z34_ (fun vs H Q E h=>?_) (fun f cdv A outer s H vs Q E hr h=>?_)
 · obtain⟨p,k,v,f,m,R,F,rfl,_⟩:=h
   rfl
 obtain⟨p,k,v,f,m,R,F,rfl,S,hl,q⟩:=h;obtain⟨t,L,ds,X,hF⟩:=id S;obtain⟨dx,hp⟩:=X.ob;obtain⟨y,hy,hr0⟩:=X.place k;have npy:p≠y:=ne_of hp hr0 (by intro z;cases z)
 have Fp:F p:=(hF p).mpr (.inl rfl);have Fy:F y:=(hF y).mpr (.inr (.inr (List.mem_of_getElem? hy)));have hlen:(kvs (sRow f m R k)).length < sizeLine:=by
  rw[kvs_len];exact Nat.lt_of_le_of_lt (Nat.le_trans (len_le_tot R _) hl) (by decide)
 have hok:ROk (rPut (sRow f m R k) k v):=rPut_ok (X.ok _ (List.mem_of_getElem? (getD_get (plc_lt X.pos))));have ht:=sPut_tot (f:=f) (m:=m) (k:=k) (v:=v) X.pos;refine⟨_,(B.scons (B.set 3 z34_.nd (B.meth (B.v 0) g.cl_Shelf q33_ hr.up (B.cons (B.v 1) B.nil)))
  (B.scons (B.set 4 z34_.nd (B.dget1 (hu_of hr) (B.v 3) (B.v 1) (m:=B.m1)))
  (B.scons (B.ifs (B.tcmp op_isN (B.v 4) B.non) (B.sone (B.faug in_add (B.v 0) B.int)) B.snil)
  (B.scons (B.dput (hu_of hr) (B.v 3) (B.v 1) (B.v 2))
  (B.sone (B.ret (B.v 4))))))),?_⟩
 walk_at "W";refine wS S ⟨by decide +kernel,by decide +kernel,by decide +kernel⟩ ?_
 walk_at "W";refine SW.wSRowW X fun y' hy'=>?_;obtain rfl:y=y':=Option.some.inj (hy.symm.trans hy');walk_at "W";refine⟨y,rfl,.inl ⟨_,.inl hr0⟩,?_⟩;walk_at "W";refine⟨_,DGet.k (k:=Sum.inl k) hr0,?_⟩;rw[oV_getD];walk_at "W";refine⟨rfl,?_⟩;walk_at "W";refine ite2 (fun hc=>?_) (fun hc=>?_)
 · have e:sLook f m R k=none:=by
    unfold sLook;cases e:rLook (sRow f m R k) k with
    | none=>rfl
    | some z=>rw[e]at hc;exact absurd (of_decide_eq_true hc) (by intro z;cases z)
   rw[e,if_pos rfl]at ht;walk_at "W";refine SW.iFld hp g.cl_Shelf g.n_Shelf_held (sfl_held _ _ _) ?_;walk_at "W";refine⟨_,_,rfl,rfl,dx,_,hp,by show 3 < 1000;decide,?_⟩
   rw[sfl_put];walk_at "W";refine⟨y,_,rfl,DPut.k (k:=Sum.inl k) (by rw[upd_ne npy.symm];exact hr0) hlen,?_⟩
   walk_at "W";rw[putK_kvs];refine q _ ⟨t,L,ds,X.set hy hok ⟨dx,?_⟩ upd_same fun b o n1 n2 e=>?_,hF⟩ fun b o nb e=>?_
   · rw[upd_ne npy,upd_same]
     show _=some (HO.ins C dx (sfl t L (tot (sPut f m R k v))));rw[ht]
     rfl
   · rw[upd_ne n2,upd_ne n1];exact e
   rw[upd_ne (fun z:b=y=>nb (z ▸ Fy)),upd_ne (fun z:b=p=>nb (z ▸ Fp))];exact e
 have e:¬ sLook f m R k=none:=fun e=>hc (by
  unfold sLook at e;rw[e];exact decide_eq_true rfl)
 rw[if_neg e]at ht;walk_at "W";refine⟨y,_,rfl,DPut.k (k:=Sum.inl k) hr0 hlen,?_⟩;walk_at "W";rw[putK_kvs];refine q _ ⟨t,L,ds,X.set hy hok ⟨dx,?_⟩ upd_same fun b o n1 n2 e=>?_,hF⟩ fun b o nb e=>?_
 · rw[upd_ne npy]
   show _=some (HO.ins C dx (sfl t L (tot (sPut f m R k v))));rw[ht];exact hp
 · rw[upd_ne n2];exact e
 rw[upd_ne (fun z:b=y=>nb (z ▸ Fy))];exact e
theorem q46_(d:Dm K C "size" "Shelf.size" z10_ ["self"])(g:Gs K mg C CE CP CZ CR CV):Mt P w K mg base C "size" 1 ["self"] (spSSize C):=by
 refine d.mt z37_ (fun vs H Q E h=>?_) (fun f cdv A outer s H vs Q E hr h=>?_)
 · obtain⟨p,f,m,R,F,rfl,_⟩:=h
   rfl
 obtain⟨p,f,m,R,F,rfl,⟨t,L,ds,X,hF⟩,q⟩:=h;obtain⟨dx,hp⟩:=X.ob;refine⟨_,(B.sone (B.ret (B.cB call_len_seq g.b_len SW.b_len (B.cons (B.fld (B.v 0)) B.nil)))),?_⟩;walk_at "W";refine SW.iFld hp g.cl_Shelf g.n_Shelf_rows (sfl_rows _ _ _) ?_;walk_at "W";refine SW.iLen (.inl (SqL.of X.rw)) ?_;rw[List.length_map,X.len];exact q
theorem q40_(d:Dm K C "many" "Shelf.many" z5_ ["self"])(g:Gs K mg C CE CP CZ CR CV):Mt P w K mg base C "many" 1 ["self"] (spSMany C):=by
 refine d.mt z32_ (fun vs H Q E h=>?_) (fun f cdv A outer s H vs Q E hr h=>?_)
 · obtain⟨p,f,m,R,F,rfl,_⟩:=h
   rfl
 obtain⟨p,f,m,R,F,rfl,⟨t,L,ds,X,hF⟩,q⟩:=h;obtain⟨dx,hp⟩:=X.ob;refine⟨_,(B.sone (B.ret (B.fld (B.v 0)))),?_⟩;walk_at "W";exact⟨p,C,dx,_,_,rfl,hp,g.cl_Shelf,g.n_Shelf_held,sfl_held _ _ _,q⟩
theorem q35_(d:Dm K C "check_place" "Shelf.check_place" z1_ ["self","place"])(g:Gs K mg C CE CP CZ CR CV)(q2_:Fn P w K mg base "is_whole" 1 ["thing"] spWhole):Mt P w K mg base C "check_place" 2 ["self","place"] (spSCheck C):=by
 refine d.mt z28_ (fun vs H Q E h=>?_) (fun f cdv A outer s H vs Q E hr h=>?_)
 · obtain⟨p,i,f,m,R,F,rfl,_⟩:=h
   rfl
 obtain⟨p,i,f,m,R,F,rfl,⟨t,L,ds,X,hF⟩,i0,i1,q⟩:=h;obtain⟨dx,hp⟩:=X.ob;refine⟨_,(B.sone (B.ifs (B.tw (B.wor (B.tnot (B.tval (B.fn q2_ hr.up (B.cons (B.v 1) B.nil)))) (B.wor1 (B.tnot (B.tchain op_le op_lt B.int (B.v 1) (B.cB call_len_seq g.b_len SW.b_len (B.cons (B.fld (B.v 0)) B.nil))))))) (B.sone B.never) B.snil)),?_⟩;walk_at "W";refine⟨i,rfl,?_⟩;walk_at "W";refine iteF ?_;walk_at "W";refine iteY i0 ?_;walk_at "W";refine SW.iFld hp g.cl_Shelf g.n_Shelf_rows (sfl_rows _ _ _) ?_;walk_at "W";refine SW.iLen (.inl (SqL.of X.rw)) ?_;walk_at "W";rw[List.length_map,X.len];refine iteNS i1 ?_;walk_at "W";exact q
theorem q43_(d:Dm K C "row" "Shelf.row" z8_ ["self","place"])(g:Gs K mg C CE CP CZ CR CV)(q28_:Mt P w K mg base C "check_place" 2 ["self","place"] (spSCheck C)):Mt P w K mg base C "row" 3 ["self","place"] (spSRow C):=by
 refine d.mt z35_ (fun vs H Q E h=>?_) (fun f cdv A outer s H vs Q E hr h=>?_)
 · obtain⟨p,i,f,m,R,F,rfl,_⟩:=h
   rfl
 obtain⟨p,i,f,m,R,F,rfl,S,hi,q⟩:=h;obtain⟨t,L,ds,X,hF⟩:=id S;obtain⟨dx,hp⟩:=X.ob;have hi':i < ds.length:=by rw[X.len];exact hi
 have hy:ds[i]?=some ds[i]:=List.getElem?_eq_getElem hi';have hr0:=X.at_ _ _ _ hy (getD_get hi);generalize ds[i]=y at hy hr0;refine⟨_,(B.scons (B.expr (B.meth (B.v 0) g.cl_Shelf q28_ hr.up (B.cons (B.v 1) B.nil)))
  (B.sone (B.ret (B.cT SW.call_list_items g.b_list SW.b_list (B.cons (B.items (B.ix ix_list (B.fld (B.v 0)) (B.v 1))) B.nil))))),?_⟩
 walk_at "W";refine wS S ⟨by decide +kernel,by decide +kernel,by decide +kernel⟩ ?_
 walk_at "W";refine⟨p,i,f,m,R,F,rfl,S,by omega,by omega,?_⟩
 walk_at "W";refine SW.iFld hp g.cl_Shelf g.n_Shelf_rows (sfl_rows _ _ _) ?_;walk_at "W";refine wIxL X.rw (v:=.ref y) ?_ ?_
 · refine atI_nat ?_
   rw[List.getElem?_map,hy]
   rfl
 refine⟨y,_,rfl,hr0,fun v hv=>?_⟩;walk_at "W";have s1:Same H (upd H v (ViewO v y)):=Same.new hv;refine⟨v,y,_,rfl,upd_same,s1 _ _ hr0,rfl,fun l as H' s2 hl hl' hlen hall=>?_⟩;refine q l _ H' (s1.trans s2) (s1.free hl) hl' (prs_of (by rw[hlen,kvs_len]) fun j a e=>?_)
 obtain⟨_,k,x,e1,e2⟩:=hall j a e;exact⟨k,x,e1,e2⟩
theorem q22_(d:Dfn K mg "_law_stream" z21_ ["cell"])(g:Gs K mg C CE CP CZ CR CV):Fn P w K mg base "_law_stream" 1 ["cell"] spStream:=by
 refine d.fn z48_ (fun vs H Q E h=>?_) (fun f cdv A outer s H vs Q E hr h=>?_)
 · obtain⟨c,rfl,_⟩:=h
   rfl
 obtain⟨c,rfl,k⟩:=h;refine⟨_,(B.scons (B.set 1 z48_.nd (B.op op_mod (B.v 0) B.int))
  (B.scons (B.set 1 z48_.nd (B.op op_mod (B.op op_add (B.op op_mul (B.op op_mod (B.op op_mul (B.v 1) (B.v 1)) B.int) (B.op op_add (B.v 1) B.int)) B.int) B.int))
  (B.sone (B.ret (B.lst (B.cons (B.v 0) (B.cons (B.v 1) (B.cons (B.cT call_int1 g.b_int SW.b_int (B.cons (B.cmp op_ge (B.v 0) (B.op op_pow B.int B.int)) B.nil)) B.nil)))))))),?_⟩
 walk_at "W";refine⟨by show(3:Nat)<=sizeLine;decide,fun p hp=>k p _ hp ⟨_,_,_,upd_same,?_,?_⟩⟩
 · exact Int.emod_nonneg _ (by decide)
 exact Int.emod_lt_of_pos _ (by decide)
theorem q23_(d:Dfn K mg "_law_take" z22_ ["row","many"]):Fn P w K mg base "_law_take" 1 ["row","many"] spTake:=by
 refine d.fn z49_ (fun vs H Q E h=>?_) (fun f cdv A outer s H vs Q E hr h=>?_)
 · obtain⟨p,m,rfl,_⟩:=h
   rfl
 obtain⟨p,m,rfl,hm0,hm1,⟨a,b,c,hp,hb0,hb1⟩,k⟩:=h;refine⟨_,(B.scons (B.ifs (B.tcmp op_eq (B.ix ix_list (B.v 0) B.int) B.int) (B.scons (B.set 2 z49_.nd (B.op op_mod (B.ix ix_list (B.v 0) B.int) (B.v 1)))
  (B.scons (B.asg (B.op op_fdivL (B.ix ix_list (B.v 0) B.int) (B.v 1)) (B.gsub (B.v 0) B.int set_list))
  (B.sone (B.ret (B.v 2))))) B.snil)
  (B.scons (B.asg (B.op op_mod (B.op op_mul (B.op op_add (B.ix ix_list (B.v 0) B.int) B.int) (B.op op_add (B.ix ix_list (B.v 0) B.int) B.int)) B.int) (B.gsub (B.v 0) B.int set_list))
  (B.sone (B.ret (B.op op_mod (B.op op_fdivL (B.op op_add (B.op op_mul (B.ix ix_list (B.v 0) B.int) B.int) B.int) B.int) (B.v 1)))))),?_⟩
 walk_at "W";refine ite2 (fun _=>?_) (fun _=>?_)
 · walk_at "W"
   exact k _ _ (Int.emod_nonneg _ (by omega)) (Int.emod_lt_of_pos _ hm0) ⟨_,_,_,upd_same,hb0,hb1⟩
 walk_at "W";exact k _ _ (Int.emod_nonneg _ (by omega)) (Int.emod_lt_of_pos _ hm0) ⟨_,_,_,upd_same,Int.emod_nonneg _ (by decide),Int.emod_lt_of_pos _ (by decide)⟩
theorem q3_(d:Dfn K mg "_law_key" z15_ ["row"])(q11_:Fn P w K mg base "_law_take" 1 ["row","many"] spTake):Fn P w K mg base "_law_key" 2 ["row"] spKey:=by
 refine d.fn z42_ (fun vs H Q E h=>?_) (fun f cdv A outer s H vs Q E hr h=>?_)
 · obtain⟨p,rfl,_⟩:=h
   rfl
 obtain⟨p,rfl,hp,k⟩:=h;refine⟨_,(B.scons (B.set 1 z42_.nd (B.lst (B.cons (B.fn q11_ hr.up (B.cons (B.v 0) (B.cons B.int B.nil))) (B.cons (B.fn q11_ hr.up (B.cons (B.v 0) (B.cons B.int B.nil))) (B.cons (B.op op_mul B.int (B.fn q11_ hr.up (B.cons (B.v 0) (B.cons B.int B.nil)))) (B.cons (B.fn q11_ hr.up (B.cons (B.v 0) (B.cons (B.op op_add (B.op op_pow B.int B.int) B.int) B.nil))) (B.cons (B.op op_pow B.int B.int) B.nil)))))))
  (B.sone (B.ret (B.ix ix_list (B.v 1) (B.fn q11_ hr.up (B.cons (B.v 0) (B.cons B.int B.nil))))))),?_⟩
 walk_at "W";refine wTake hp (by decide) (by decide) fun r1 H1 a1 b1 R1 K1=>?_
 walk_at "W";refine wTake R1 (by decide) (by decide) fun r2 H2 a2 b2 R2 K2=>?_
 walk_at "W";refine wTake R2 (by decide) (by decide) fun r3 H3 a3 b3 R3 K3=>?_
 walk_at "W";refine wTake R3 (by decide) (by decide) fun r4 H4 a4 b4 R4 K4=>?_
 have e9:(10:Int) ^ (Int.toNat 9)=1000000000:=by decide
 walk_at "W";refine⟨by show(5:Nat)<=sizeLine;decide,fun q hq=>?_⟩
 walk_at "W";refine wTake (R4.new hq) (by decide) (by decide) fun r5 H5 a5 b5 R5 K5=>?_
 have e5:=K5 q _ (R4.ne0 hq).symm upd_same;obtain⟨v,hv,hm⟩:=atI_in (xs:=[V.int r1,V.int r2,V.int (65536*r3),V.int r4,V.int (10 ^ 9)]) a5 b5;refine wIxL e5 hv ?_;obtain⟨z,rfl,z0,z1⟩:∃ z,v=V.int z/\0<=z/\z<=1000000000:=by
  simp only[List.mem_cons,List.not_mem_nil,or_false]at hm;rcases hm with rfl | rfl | rfl | rfl | rfl
  · exact⟨_,rfl,by omega,by omega⟩
  · exact⟨_,rfl,by omega,by omega⟩
  · exact⟨_,rfl,by omega,by omega⟩
  · exact⟨_,rfl,by omega,by omega⟩
  exact⟨_,rfl,by decide,by decide⟩
 exact k z H5 z0 z1 R5 (((K1.trans K2).trans (K3.trans K4)).trans ((KeepBut.new hq).trans K5))
theorem q16_(d:Dfn K mg "_law_mixer" z18_ ["row"])(q11_:Fn P w K mg base "_law_take" 1 ["row","many"] spTake):Fn P w K mg base "_law_mixer" 2 ["row"] spMixer:=by
 refine d.fn z45_ (fun vs H Q E h=>?_) (fun f cdv A outer s H vs Q E hr h=>?_)
 · obtain⟨p,rfl,_⟩:=h
   rfl
 obtain⟨p,rfl,hp,k⟩:=h;refine⟨_,(B.scons (B.set 1 z45_.nd (B.lst (B.cons (B.tup (B.cons B.int (B.cons B.int B.nil))) (B.cons (B.tup (B.cons B.int (B.cons B.int B.nil))) (B.cons (B.tup (B.cons B.int (B.cons B.int B.nil))) (B.cons (B.tup (B.cons B.int (B.cons B.int B.nil))) (B.cons (B.tup (B.cons B.int (B.cons B.int B.nil))) (B.cons (B.tup (B.cons B.int (B.cons B.int B.nil))) (B.cons (B.tup (B.cons B.int (B.cons B.int B.nil))) (B.cons (B.tup (B.cons B.int (B.cons B.int B.nil))) B.nil))))))))))
  (B.scons (B.expr (B.m PySem.F.plainAttrs_list PySem.F.slot_list_append PySem.F.type_list_append mt_append (B.v 1) (B.cons (B.tup (B.cons (B.fn q11_ hr.up (B.cons (B.v 0) (B.cons B.int B.nil))) (B.cons (B.fn q11_ hr.up (B.cons (B.v 0) (B.cons B.int B.nil))) B.nil))) B.nil)))
  (B.sone (B.ret (B.ix ix_list (B.v 1) (B.fn q11_ hr.up (B.cons (B.v 0) (B.cons B.int B.nil)))))))),?_⟩
 have two:(2:Nat)<=sizeLine:=by decide
 walk_at "W";refine⟨two,fun t1 h1=>?_⟩;have M1:=(Mixs.nil).new t1 1 0 h1 (by decide)
 have R1:=hp.new (o:=.tup [.int 1,.int 0]) h1;have S1:=(Same.new (o:=.tup [.int 1,.int 0]) h1);walk_at "W";refine⟨two,fun t2 h2=>?_⟩;have M2:=(M1).new t2 0 0 h2 (by decide)
 have R2:=R1.new (o:=.tup [.int 0,.int 0]) h2;have S2:=S1.trans (Same.new (o:=.tup [.int 0,.int 0]) h2);walk_at "W";refine⟨two,fun t3 h3=>?_⟩;have M3:=(M2).new t3 0 65535 h3 (by decide)
 have R3:=R2.new (o:=.tup [.int 0,.int 65535]) h3;have S3:=S2.trans (Same.new (o:=.tup [.int 0,.int 65535]) h3);walk_at "W";refine⟨two,fun t4 h4=>?_⟩;have M4:=(M3).new t4 40503 7 h4 (by decide)
 have R4:=R3.new (o:=.tup [.int 40503,.int 7]) h4;have S4:=S3.trans (Same.new (o:=.tup [.int 40503,.int 7]) h4);walk_at "W";refine⟨two,fun t5 h5=>?_⟩;have M5:=(M4).new t5 65535 1 h5 (by decide)
 have R5:=R4.new (o:=.tup [.int 65535,.int 1]) h5;have S5:=S4.trans (Same.new (o:=.tup [.int 65535,.int 1]) h5);walk_at "W";refine⟨two,fun t6 h6=>?_⟩;have M6:=(M5).new t6 2 0 h6 (by decide)
 have R6:=R5.new (o:=.tup [.int 2,.int 0]) h6;have S6:=S5.trans (Same.new (o:=.tup [.int 2,.int 0]) h6);walk_at "W";refine⟨two,fun t7 h7=>?_⟩;have M7:=(M6).new t7 4096 3 h7 (by decide)
 have R7:=R6.new (o:=.tup [.int 4096,.int 3]) h7;have S7:=S6.trans (Same.new (o:=.tup [.int 4096,.int 3]) h7);walk_at "W";refine⟨two,fun t8 h8=>?_⟩;have M8:=(M7).new t8 32768 65535 h8 (by decide)
 have R8:=R7.new (o:=.tup [.int 32768,.int 65535]) h8;have S8:=S7.trans (Same.new (o:=.tup [.int 32768,.int 65535]) h8);walk_at "W";refine⟨by show(8:Nat)<=sizeLine;decide,fun q hq=>?_⟩
 have q0:H q=none:=S8.free hq;have nqp:q≠p:=(R8.ne0 hq).symm;have M9:=M8.map fun _ z=>z.same (Same.new (o:=.lst [.ref t1,.ref t2,.ref t3,.ref t4,.ref t5,.ref t6,.ref t7,.ref t8]) hq);have R9:=R8.new (o:=.lst [.ref t1,.ref t2,.ref t3,.ref t4,.ref t5,.ref t6,.ref t7,.ref t8]) hq;have K9:KeepBut p H _:=SW.Same.but (S8.trans (Same.new (o:=.lst [.ref t1,.ref t2,.ref t3,.ref t4,.ref t5,.ref t6,.ref t7,.ref t8]) hq));walk_at "W";refine wBM ?_;walk_at "W";refine⟨.inl ⟨rfl,_,SqL.of upd_same⟩,?_⟩;walk_at "W";refine wTake R9 (by decide) (by decide) fun r1 H10 a1 b1 R10 K10=>?_
 have q10:=K10 q _ nqp upd_same;have M10:=M9.map fun _ z=>z.keep R9 K10;walk_at "W";refine wTake R10 (by decide) (by decide) fun r2 H11 a2 b2 R11 K11=>?_
 have q11:=K11 q _ nqp q10;have M11:=M10.map fun _ z=>z.keep R10 K11;walk_at "W";refine⟨two,fun t9 h9=>?_⟩;have M12:=M11.new t9 r1 r2 h9 (by omega)
 have q12:=Same.new (o:=.tup [.int r1,.int r2]) h9 _ _ q11;walk_at "W";refine⟨q,_,_,rfl,rfl,q12,by show(8:Nat) < sizeLine;decide,?_⟩
 have M13:=M12.map fun _ z=>z.upd (o:=.lst ([.ref t1,.ref t2,.ref t3,.ref t4,.ref t5,.ref t6,.ref t7,.ref t8]++[.ref t9])) q12;have R13:=(R11.new (o:=.tup [.int r1,.int r2]) h9).upd (o:=.lst ([.ref t1,.ref t2,.ref t3,.ref t4,.ref t5,.ref t6,.ref t7,.ref t8]++[.ref t9])) nqp.symm;have K13:=(((K9.trans K10).trans K11).trans (KeepBut.new (o:=.tup [.int r1,.int r2]) h9)).upd (o:=.lst ([.ref t1,.ref t2,.ref t3,.ref t4,.ref t5,.ref t6,.ref t7,.ref t8]++[.ref t9])) q0;walk_at "W";refine wTake R13 (by decide) (by decide) fun r H14 a b R14 K14=>?_
 have q14:=K14 q _ nqp upd_same;obtain⟨v,hv,hm⟩:=atI_in (xs:=[V.ref t1,V.ref t2,V.ref t3,V.ref t4,V.ref t5,V.ref t6,V.ref t7,V.ref t8]++[V.ref t9]) a b;refine wIxL q14 hv ?_;obtain⟨t,rfl,m⟩:=M13 v hm;exact k t H14 (m.keep R13 K14) R14 (K13.trans K14)
theorem q26_(d:Dfn K mg "_law_worth" z23_ ["row"])(q11_:Fn P w K mg base "_law_take" 1 ["row","many"] spTake):Fn P w K mg base "_law_worth" 2 ["row"] spWorth:=by
 refine d.fn z50_ (fun vs H Q E h=>?_) (fun f cdv A outer s H vs Q E hr h=>?_)
 · obtain⟨p,rfl,_⟩:=h
   rfl
 obtain⟨p,rfl,hp,k⟩:=h;refine⟨_,(B.sone (B.ret (B.ix ix_list (B.lst (B.cons B.int (B.cons (B.un un_neg B.int) (B.cons (B.op op_sub (B.fn q11_ hr.up (B.cons (B.v 0) (B.cons (B.op op_add (B.op op_mul B.int (B.op op_pow B.int B.int)) B.int) B.nil))) (B.op op_pow B.int B.int)) (B.cons (B.op op_pow B.int B.int) (B.cons (B.fn q11_ hr.up (B.cons (B.v 0) (B.cons B.int B.nil))) B.nil)))))) (B.fn q11_ hr.up (B.cons (B.v 0) (B.cons B.int B.nil)))))),?_⟩;walk_at "W";refine wTake hp (by decide) (by decide) fun r1 H1 a1 b1 R1 K1=>?_
 have e9:(10:Int) ^ (Int.toNat 9)=1000000000:=by decide
 walk_at "W";refine wTake R1 (by decide) (by decide) fun r2 H2 a2 b2 R2 K2=>?_
 walk_at "W";refine⟨by show(5:Nat)<=sizeLine;decide,fun q hq=>?_⟩
 walk_at "W";refine wTake (R2.new hq) (by decide) (by decide) fun r5 H5 a5 b5 R5 K5=>?_
 have e5:=K5 q _ (R2.ne0 hq).symm upd_same;obtain⟨v,hv,hm⟩:=atI_in (xs:=[V.int 0,V.int (-1),V.int (r1 - 10 ^ (Int.toNat 9)),V.int (10 ^ (Int.toNat 9)),V.int r2]) a5 b5;refine wIxL e5 hv ?_;obtain⟨z,rfl,z0,z1⟩:∃ z,v=V.int z /\ -1000000000<=z/\z<=1000000000:=by
  rw[e9]at hm b1;simp only[List.mem_cons,List.not_mem_nil,or_false]at hm;rcases hm with rfl | rfl | rfl | rfl | rfl
  · exact⟨_,rfl,by decide,by decide⟩
  · exact⟨_,rfl,by decide,by decide⟩
  · exact⟨_,rfl,by omega,by omega⟩
  · exact⟨_,rfl,by decide,by decide⟩
  exact⟨_,rfl,by omega,by omega⟩
 exact k z H5 z0 z1 R5 ((K1.trans K2).trans ((KeepBut.new hq).trans K5))
def plcD(n:Nat):PyData->Bool
 | .int i=>decide (0<=i) && decide (i < (n:Int))
 | _=>false
def szV:List V:=[.int 4,.int 8,.int 16,.int 32,.int 64,.int 128,.int 256,.int 512,.int 1024,.int 2048,.int 4096]
def szD:PyData->Bool
 | .int i=>inV (V.int i) szV
 | _=>false
def spWhl7:Sp:=fun vs H Q _=>∃(v:V) (d:PyData),vs=[v]/\Any H v d/\Q (.bl (isWhD d)) H
theorem wWhl7{H:Hp}{Q:VK}{E:XK}{v:V}{d:PyData}(h:Any H v d)(q:Q (.bl (isWhD d)) H):spWhl7 ([v]++[]) H Q E:=⟨v,d,rfl,h,q⟩
def spSz7:Sp:=fun vs H Q _=>∃(v:V) (d:PyData),vs=[v]/\Any H v d/\Q (.bl (szD d)) H
def spCheck7(C CP:Addr):Sp:=fun vs H Q E=>∃(p:Addr) (v:V) (d:PyData) (f m:Int) (R:MRows) (F:Addr->Prop),vs=[.ref p,v]/\Sh C H p f m R F/\Any H v d/\((plcD R.length d=true/\Q .non H)∨(plcD R.length d=false/\E (.ref CP) none H))
def spRow7(C CP:Addr):Sp:=fun vs H Q E=>∃(p:Addr) (v:V) (d:PyData) (f m:Int) (R:MRows) (F:Addr->Prop),vs=[.ref p,v]/\Sh C H p f m R F/\Any H v d /\
 ((∃ i:Nat,v=.int i/\i < R.length /\ ∀ l xs H',Same H H'->H l=none->H' l=some (.lst xs)->Prs H' xs (R.getD i [])->Q (.ref l) H')∨(plcD R.length d=false/\E (.ref CP) none H))
def spEmpty7(C CP:Addr):Sp:=fun vs H Q E=>∃(p:Addr) (v:V) (d:PyData) (f m:Int) (R:MRows) (F:Addr->Prop),vs=[.ref p,v]/\Sh C H p f m R F/\Any H v d/\plcD R.length d=false/\E (.ref CP) none H
def spInit7(CZ:Addr):Sp:=fun vs H Q E=>∃(x:Addr) (v y:V) (d:PyData),vs=[.ref x,v,y]/\Any H v d/\szD d=false/\E (.ref CZ) none H
theorem no7{a:Prop}{A B C:Prop}(h:(false=true/\a)∨(false=false/\C))(hA:C->A):if(!false)=true then A else B:=by
 rw[if_pos (show(!false)=true from rfl)];rcases h with ⟨z,_⟩ | ⟨_,q⟩
 · cases z
 exact hA q
theorem q25_(d:Dfn K mg "is_whole" z12_ ["thing"])(g:Gs K mg C CE CP CZ CR CV):Fn P w K mg base "is_whole" 1 ["thing"] spWhl7:=by
 refine d.fn z39_ (fun vs H Q E h=>?_) (fun f cdv A outer s H vs Q E hr h=>?_)
 · obtain⟨v,dd,rfl,_⟩:=h
   rfl
 obtain⟨v,dd,rfl,hd,q⟩:=h;refine⟨_,(B.sone (B.ret (B.and (B.cB SW.call_isi g.b_isinstance SW.b_isinstance (B.cons (B.v 0) (B.cons (B.ty g.b_int SW.b_int) B.nil))) (B.one (B.not (B.cB SW.call_isi g.b_isinstance SW.b_isinstance (B.cons (B.v 0) (B.cons (B.ty g.b_bool SW.b_bool) B.nil)))))))),?_⟩;walk_at "W";refine SW.iIsi hd.ty (isi_d_int dd) ?_;walk_at "W";cases dd with
 | int i=>
   refine iteT ?_;walk_at "W";refine SW.iIsi hd.ty (isi_d_bool _) ?_;walk_at "W";exact q
 | bool b=>
   refine iteT ?_;walk_at "W";refine SW.iIsi hd.ty (isi_d_bool _) ?_;walk_at "W";exact q
 | none=>exact iteF q
 | str x=>exact iteF q
 | list x=>exact iteF q
 | tuple x=>exact iteF q
 | dict x=>exact iteF q
theorem q21_(d:Dfn K mg "is_size" z11_ ["thing"])(g:Gs K mg C CE CP CZ CR CV)(q2_:Fn P w K mg base "is_whole" 1 ["thing"] spWhl7):Fn P w K mg base "is_size" 2 ["thing"] spSz7:=by
 refine d.fn z38_ (fun vs H Q E h=>?_) (fun f cdv A outer s H vs Q E hr h=>?_)
 · obtain⟨v,dd,rfl,_⟩:=h
   rfl
 obtain⟨v,dd,rfl,hd,q⟩:=h;obtain⟨aS,hS,tS⟩:=g.c_SIZES;refine⟨_,(B.sone (B.ret (B.and (B.fn q2_ hr.up (B.cons (B.v 0) B.nil)) (B.one (B.cmpI op_in_seq (B.v 0) (B.gref hS)))))),?_⟩;walk_at "W";refine wWhl7 hd ?_;walk_at "W";cases dd with
 | int i=>
   cases hd;refine iteT ?_;walk_at "W";refine⟨aS,_,rfl,.inr (tS _),rfl,by decide,?_⟩
   rw[if_neg Bool.false_ne_true];exact q
 | bool b=>exact iteF q
 | none=>exact iteF q
 | str x=>exact iteF q
 | list x=>exact iteF q
 | tuple x=>exact iteF q
 | dict x=>exact iteF q
theorem q36_(d:Dm K C "check_place" "Shelf.check_place" z1_ ["self","place"])(g:Gs K mg C CE CP CZ CR CV)(q2_:Fn P w K mg base "is_whole" 1 ["thing"] spWhl7):MtX P w K mg base C "check_place" 2 ["self","place"] (spCheck7 C CP):=by
 refine d.mtX z28_ (fun vs H Q E h=>?_) (fun f cdv A outer s H vs Q E hr h=>?_)
 · obtain⟨p,v,dd,f,m,R,F,rfl,_⟩:=h
   rfl
 obtain⟨p,v,dd,f,m,R,F,rfl,⟨t,L,ds,X,hF⟩,hd,hc⟩:=h;obtain⟨dx,hp⟩:=X.ob;refine⟨_,(B.sone (B.ifs (B.tw (B.wor (B.tnot (B.tval (B.fn q2_ hr.up (B.cons (B.v 1) B.nil)))) (B.wor1 (B.tnot (B.tchain op_le op_lt B.int (B.v 1) (B.cB call_len_seq g.b_len SW.b_len (B.cons (B.fld (B.v 0)) B.nil))))))) (B.sone (SW.B.raise g.e_NoPlace)) B.snil)),?_⟩;walk_at "W";refine wWhl7 hd ?_;walk_at "W";cases dd with
 | int i=>
   cases hd;show if(!true)=true then _ else _;refine iteF ?_;walk_at "W";have hc:(((decide (0<=i) && decide (i < (R.length:Int)))=true)/\Q .non H)∨(((decide (0<=i) && decide (i < (R.length:Int)))=false)/\E (.ref CP) none H):=hc;by_cases c0:0<=i
   · refine iteY c0 ?_
     walk_at "W";refine SW.iFld hp g.cl_Shelf g.n_Shelf_rows (sfl_rows _ _ _) ?_;walk_at "W";refine SW.iLen (.inl (SqL.of X.rw)) ?_;walk_at "W";rw[List.length_map,X.len];rw[decide_eq_true c0,Bool.true_and]at hc;by_cases c1:i < (R.length:Int)
     · refine iteNS c1 ?_
       walk_at "W";rw[decide_eq_true c1]at hc;rcases hc with ⟨_,q⟩ | ⟨z,_⟩
       · exact q
       cases z
     rw[decide_eq_false c1]at hc ⊢;rcases hc with ⟨z,_⟩ | ⟨_,q⟩
     · cases z
     rw[if_pos (show(!false)=true from rfl)];exact q
   rw[decide_eq_false c0,Bool.false_and]at hc;rcases hc with ⟨z,_⟩ | ⟨_,q⟩
   · cases z
   refine iteNo c0 ⟨_,rfl,?_⟩;rw[if_pos (show(!false)=true from rfl)];exact q
 | bool b=>exact no7 hc id
 | none=>exact no7 hc id
 | str x=>exact no7 hc id
 | list x=>exact no7 hc id
 | tuple x=>exact no7 hc id
 | dict x=>exact no7 hc id
theorem q44_(d:Dm K C "row" "Shelf.row" z8_ ["self","place"])(g:Gs K mg C CE CP CZ CR CV)(q28_:MtX P w K mg base C "check_place" 2 ["self","place"] (spCheck7 C CP)):MtX P w K mg base C "row" 3 ["self","place"] (spRow7 C CP):=by
 refine d.mtX z35_ (fun vs H Q E h=>?_) (fun f cdv A outer s H vs Q E hr h=>?_)
 · obtain⟨p,v,dd,f,m,R,F,rfl,_⟩:=h
   rfl
 obtain⟨p,v,dd,f,m,R,F,rfl,S,hd,hc⟩:=h;obtain⟨t,L,ds,X,hF⟩:=id S;obtain⟨dx,hp⟩:=X.ob;refine⟨_,(B.scons (B.expr (SW.B.methX (B.v 0) g.cl_Shelf q28_ hr.up (B.cons (B.v 1) B.nil)))
  (B.sone (B.ret (B.cT SW.call_list_items g.b_list SW.b_list (B.cons (B.items (B.ix ix_list (B.fld (B.v 0)) (B.v 1))) B.nil))))),?_⟩
 walk_at "W";refine wS S ⟨by decide +kernel,by decide +kernel,by decide +kernel⟩ ?_
 walk_at "W";rcases hc with ⟨i,rfl,hi,q⟩ | ⟨hn,q⟩
 · cases hd
   refine⟨p,_,_,f,m,R,F,rfl,S,.int _,.inl ⟨?_,?_⟩⟩
   · show(decide (0<=(i:Int)) && decide ((i:Int) < (R.length:Int)))=true
     rw[decide_eq_true (by omega),decide_eq_true (by omega)]
     rfl
   have hi':i < ds.length:=by rw[X.len];exact hi
   have hy:ds[i]?=some ds[i]:=List.getElem?_eq_getElem hi';have hr0:=X.at_ _ _ _ hy (getD_get hi);generalize ds[i]=y at hy hr0;walk_at "W";refine SW.iFld hp g.cl_Shelf g.n_Shelf_rows (sfl_rows _ _ _) ?_;walk_at "W";refine wIxL X.rw (v:=.ref y) ?_ ?_
   · refine atI_nat ?_
     rw[List.getElem?_map,hy]
     rfl
   refine⟨y,_,rfl,hr0,fun v hv=>?_⟩;walk_at "W";have s1:Same H (upd H v (ViewO v y)):=Same.new hv;refine⟨v,y,_,rfl,upd_same,s1 _ _ hr0,rfl,fun l as H' s2 hl hl' hlen hall=>?_⟩;refine q l _ H' (s1.trans s2) (s1.free hl) hl' (prs_of (by rw[hlen,kvs_len]) fun j a e=>?_)
   obtain⟨_,k,x,e1,e2⟩:=hall j a e;exact⟨k,x,e1,e2⟩
 exact⟨p,_,_,f,m,R,F,rfl,S,hd,.inr ⟨hn,q⟩⟩
theorem q37_(d:Dm K C "empty" "Shelf.empty" z3_ ["self","place"])(g:Gs K mg C CE CP CZ CR CV)(q32_:MtX P w K mg base C "row" 3 ["self","place"] (spRow7 C CP)):MtX P w K mg base C "empty" 4 ["self","place"] (spEmpty7 C CP):=by
 refine d.mtX z30_ (fun vs H Q E h=>?_) (fun f cdv A outer s H vs Q E hr h=>?_)
 · obtain⟨p,v,dd,f,m,R,F,rfl,_⟩:=h
   rfl
 obtain⟨p,v,dd,f,m,R,F,rfl,S,hd,hn,q⟩:=h;refine⟨_,(B.scons (B.set 2 z30_.nd (SW.B.methX (B.v 0) g.cl_Shelf q32_ hr.up (B.cons (B.v 1) B.nil)))
  (B.scons (B.asg B.dnew (B.gsub (B.fld (B.v 0)) (B.v 1) set_list))
  (B.scons (B.faug in_sub (B.v 0) (B.cB call_len_seq g.b_len SW.b_len (B.cons (B.v 2) B.nil)))
  (B.sone (B.ret (B.v 2)))))),?_⟩
 walk_at "W";refine wS S ⟨by decide +kernel,by decide +kernel,by decide +kernel⟩ ?_
 walk_at "W";exact⟨p,_,_,f,m,R,F,rfl,S,hd,.inr ⟨hn,q⟩⟩
theorem q39_(d:Dk K mg C "Shelf" "Shelf.__init__" z0_ ["self","size","mixer"])(g:Gs K mg C CE CP CZ CR CV)(q1_:Fn P w K mg base "is_size" 2 ["thing"] spSz7):MkrX P w K mg base C "Shelf" 3 ["self","size","mixer"] (spInit7 CZ):=by
 refine d.mkX z27_ (fun vs H Q E h=>?_) (fun f cdv A outer s H vs Q E hr h=>?_)
 · obtain⟨x,v,y,dd,rfl,_⟩:=h
   rfl
 obtain⟨x,v,y,dd,rfl,hd,hn,q⟩:=h;refine⟨_,(B.scons (B.ifs (B.tnot (B.tval (B.fn q1_ hr.up (B.cons (B.v 1) B.nil)))) (B.sone (SW.B.raise g.e_NoSize)) B.snil)
  (B.scons (B.sfld (B.v 0) (B.v 2))
  (B.scons (B.sfld (B.v 0) (SW.B.comp [] ["place"] (SW.CompScope.of rfl rfl (by decide +kernel) (by decide +kernel) rfl trivial rfl rfl rfl) (by decide +kernel) (B.irange g.b_range (B.cons (B.v 1) B.nil)) (fun _ _ _ _=>B.dnew)))
  (B.sone (B.sfld (B.v 0) B.int))))),?_⟩
 walk_at "W";refine⟨v,dd,rfl,hd,?_⟩;walk_at "W";rw[hn];rw[if_pos (show(!false)=true from rfl)];exact q
def spKind7(CP CZ:Addr):Sp:=fun vs H Q _=>∃(ea C:Addr),vs=[.ref ea]/\H ea=some (excO ea C)/\((C=CP /\ ∀ H',Same H H'->Q (.str "place") H')∨(C=CZ /\ ∀ H',Same H H'->Q (.str "size") H'))
def spAsked7(C:Addr):Sp:=fun vs H Q _=>∃(p:Addr) (way:Int) (v:V) (d:PyData) (f m:Int) (R:MRows) (F:Addr->Prop),vs=[.ref p,.int way,v]/\Sh C H p f m R F/\Any H v d /\
 (((way=0∨way=1)/\plcD R.length d=false /\ ∀ H',Same H H'->Q (.str "place") H')∨(way=2/\szD d=false /\ ∀ H',Same H H'->Q (.str "size") H')∨(way=0/\(∃ i:Nat,v=.int i/\i < R.length) /\ ∀ H',Same H H'->Q (.str "told") H'))
theorem b_ValueErrorX:bootBuiltins "ValueError"=some (.type "ValueError"):=by decide +kernel
theorem kit_self{K:W.Frag}{C:Addr}:W.kitOne K (.ref C) (.ref C)=some true:=by
 simp[W.kitOne]
theorem RoomH.units{k:Nat}{A:Around}(r:SW.RoomH k A):A.units+64 < cLine:=by
 have:=r.un;omega
theorem wTryB{K:W.Frag}{tb:XK->(Hp->Prop)->L2.St->Hp->Prop}{CB:Addr}{i:Nat}{ts:TS}{D:L2.Ends}{σ:L2.St}{H:Hp}(h:tb (fun cls _ H'=>∃ C,cls=.ref C/\W.exmOne K (.ref C) (.ref CB)=some true /\ ∀ ea,H' ea=none->ts { nx:=fun σ2 H2=>D.nx (σ2.set i none) H2,rt:=fun _ _=>False } (σ.set i (some (.ref ea))) (upd H' ea (excO ea C))) (fun H1=>D.nx σ H1) σ H):SW.tTryB K tb CB i ts D σ H:=h
theorem q4_(d:Dfn K mg "_law_kind" z16_ ["e"])(g:Gs K mg C CE CP CZ CR CV):SW.FnH P w K mg base "_law_kind" 1 ["e"] (spKind7 CP CZ):=by
 refine d.fnH z43_ (fun vs H Q E h=>?_) (fun f cdv A outer s H vs Q E hr h=>?_)
 · obtain⟨ea,C,rfl,_⟩:=h
   rfl
 obtain⟨ea,D,rfl,he,hk⟩:=h;have lim:sizeLine=16777216:=sizeLine_eq;refine⟨_,(B.scons (B.set 1 z43_.nd (B.lst (B.cons (B.cB (SW.call_isiX K) g.b_isinstance SW.b_isinstance (B.cons (B.v 0) (B.cons (B.gref g.m_NoPlace) B.nil))) (B.cons (B.cB (SW.call_isiX K) g.b_isinstance SW.b_isinstance (B.cons (B.v 0) (B.cons (B.gref g.m_NoSize) B.nil))) (B.cons (B.cB (SW.call_isiX K) g.b_isinstance SW.b_isinstance (B.cons (B.v 0) (B.cons (B.gref g.m_NoRow) B.nil))) (B.cons (B.cB (SW.call_isiX K) g.b_isinstance SW.b_isinstance (B.cons (B.v 0) (B.cons (B.gref g.m_NoState) B.nil))) B.nil))))))
  (B.scons (B.ifs (B.tw (B.wor (B.tnot (B.tval (B.cB (SW.call_isiX K) g.b_isinstance SW.b_isinstance (B.cons (B.v 0) (B.cons (B.ty g.b_ValueError b_ValueErrorX) B.nil))))) (B.wor1 (B.tcmp op_ne (B.m PySem.F.plainAttrs_list PySem.F.slot_list_count PySem.F.type_list_count (SW.mt_countB (RoomH.units hr)) (B.v 1) (B.cons B.bl B.nil)) B.int)))) (B.sone (B.ret B.str)) B.snil)
  (B.sone (B.ret (B.ix ix_list (B.lst (B.cons B.str (B.cons B.str (B.cons B.str (B.cons B.str B.nil))))) (B.m PySem.F.plainAttrs_list PySem.F.slot_list_index PySem.F.type_list_index (SW.mt_indexB (RoomH.units hr)) (B.v 1) (B.cons B.bl B.nil))))))),?_⟩
 walk_at "W";rcases hk with ⟨e,q⟩ | ⟨e,q⟩
 · subst e
   refine⟨ea,D,_,true,rfl,he,g.x_NoPlace,.inl ⟨_,rfl,kit_self⟩,?_⟩;walk_at "W";refine⟨ea,D,_,false,rfl,he,g.x_NoPlace,.inl ⟨_,rfl,g.kn_NoPlace_NoSize⟩,?_⟩;walk_at "W";refine⟨ea,D,_,false,rfl,he,g.x_NoPlace,.inl ⟨_,rfl,g.kn_NoPlace_NoRow⟩,?_⟩;walk_at "W";refine⟨ea,D,_,false,rfl,he,g.x_NoPlace,.inl ⟨_,rfl,g.kn_NoPlace_NoState⟩,?_⟩;walk_at "W";refine⟨by show(4:Nat)<=sizeLine;omega,fun l hl=>?_⟩
   have s1:=Same.new (o:=.lst [.bl true,.bl false,.bl false,.bl false]) hl;have e1:upd H l (.lst [.bl true,.bl false,.bl false,.bl false]) l=some (.lst ([true,false,false,false].map V.bl)):=upd_same;have he1:=s1 _ _ he;generalize upd H l (.lst [.bl true,.bl false,.bl false,.bl false])=H1 at *;walk_at "W";refine⟨ea,D,_,true,rfl,he1,g.x_NoPlace,.inl ⟨_,rfl,g.v_NoPlace⟩,?_⟩;walk_at "W";refine iteF ?_;walk_at "W";refine wBM ?_;walk_at "W";refine⟨.inl ⟨rfl,_,SqL.of e1⟩,?_⟩;walk_at "W";refine⟨l,_,true,rfl,rfl,e1,?_⟩;walk_at "W";refine iteNS (show V.int (([true,false,false,false].count true:Nat):Int)=V.int 1 by decide) ?_
   walk_at "W";refine⟨by show(4:Nat)<=sizeLine;omega,fun l2 hl2=>?_⟩
   have s2:=Same.new (o:=.lst [.str "place",.str "size",.str "",.str ""]) hl2;have e2:upd H1 l2 (.lst [.str "place",.str "size",.str "",.str ""]) l2=some (.lst [.str "place",.str "size",.str "",.str ""]):=upd_same;have e12:=s2 _ _ e1;generalize upd H1 l2 (.lst [.str "place",.str "size",.str "",.str ""])=H2 at *;walk_at "W";refine wBM ?_;walk_at "W";refine⟨.inl ⟨rfl,_,SqL.of e12⟩,?_⟩;walk_at "W";refine⟨l,_,true,0,rfl,rfl,e12,rfl,?_⟩;refine wIxL e2 rfl ?_;exact q H2 (s1.trans s2)
 subst e;refine⟨ea,D,_,false,rfl,he,g.x_NoSize,.inl ⟨_,rfl,g.kn_NoSize_NoPlace⟩,?_⟩;walk_at "W";refine⟨ea,D,_,true,rfl,he,g.x_NoSize,.inl ⟨_,rfl,kit_self⟩,?_⟩;walk_at "W";refine⟨ea,D,_,false,rfl,he,g.x_NoSize,.inl ⟨_,rfl,g.kn_NoSize_NoRow⟩,?_⟩;walk_at "W";refine⟨ea,D,_,false,rfl,he,g.x_NoSize,.inl ⟨_,rfl,g.kn_NoSize_NoState⟩,?_⟩;walk_at "W";refine⟨by show(4:Nat)<=sizeLine;omega,fun l hl=>?_⟩
 have s1:=Same.new (o:=.lst [.bl false,.bl true,.bl false,.bl false]) hl;have e1:upd H l (.lst [.bl false,.bl true,.bl false,.bl false]) l=some (.lst ([false,true,false,false].map V.bl)):=upd_same;have he1:=s1 _ _ he;generalize upd H l (.lst [.bl false,.bl true,.bl false,.bl false])=H1 at *;walk_at "W";refine⟨ea,D,_,true,rfl,he1,g.x_NoSize,.inl ⟨_,rfl,g.v_NoSize⟩,?_⟩;walk_at "W";refine iteF ?_;walk_at "W";refine wBM ?_;walk_at "W";refine⟨.inl ⟨rfl,_,SqL.of e1⟩,?_⟩;walk_at "W";refine⟨l,_,true,rfl,rfl,e1,?_⟩;walk_at "W";refine iteNS (show V.int (([false,true,false,false].count true:Nat):Int)=V.int 1 by decide) ?_
 walk_at "W";refine⟨by show(4:Nat)<=sizeLine;omega,fun l2 hl2=>?_⟩
 have s2:=Same.new (o:=.lst [.str "place",.str "size",.str "",.str ""]) hl2;have e2:upd H1 l2 (.lst [.str "place",.str "size",.str "",.str ""]) l2=some (.lst [.str "place",.str "size",.str "",.str ""]):=upd_same;have e12:=s2 _ _ e1;generalize upd H1 l2 (.lst [.str "place",.str "size",.str "",.str ""])=H2 at *;walk_at "W";refine wBM ?_;walk_at "W";refine⟨.inl ⟨rfl,_,SqL.of e12⟩,?_⟩;walk_at "W";refine⟨l,_,true,1,rfl,rfl,e12,rfl,?_⟩;refine wIxL e2 rfl ?_;exact q H2 (s1.trans s2)
theorem q0_(d:Dfn K mg "_law_asked" z14_ ["shelf","way","thing"])(g:Gs K mg C CE CP CZ CR CV)(q32_:MtX P w K mg base C "row" 3 ["self","place"] (spRow7 C CP))(M_Shelf_empty:MtX P w K mg base C "empty" 4 ["self","place"] (spEmpty7 C CP))(q27_:MkrX P w K mg base C "Shelf" 3 ["self","size","mixer"] (spInit7 CZ))(F_law_kind:SW.FnH P w K mg base "_law_kind" 1 ["e"] (spKind7 CP CZ)):Fn P w K mg base "_law_asked" 5 ["shelf","way","thing"] (spAsked7 C):=by
 refine d.fn z41_ (fun vs H Q E h=>?_) (fun f cdv A outer s H vs Q E hr h=>?_)
 · obtain⟨p,way,v,dd,f,m,R,F,rfl,_⟩:=h
   rfl
 obtain⟨p,way,v,dd,f,m,R,F,rfl,S,hd,hc⟩:=h;have lim:sizeLine=16777216:=sizeLine_eq;refine⟨_,(B.scons (B.set 3 z41_.nd B.str)
  (B.scons (SW.B.tryB (i:=4) (SW.B.tbIf (fun _=>B.tcmp op_eq (B.v 1) B.int) (SW.B.tbM (fun _=>B.v 0) g.cl_Shelf q32_ hr.up (fun _=>B.cons (B.v 2) B.nil)) (SW.B.tbIf (fun _=>B.tcmp op_eq (B.v 1) B.int) (SW.B.tbM (fun _=>B.v 0) g.cl_Shelf M_Shelf_empty hr.up (fun _=>B.cons (B.v 2) B.nil)) (SW.B.tbK q27_ hr.up (fun _=>B.cons (B.v 2) (B.cons (B.tup (B.cons B.int (B.cons B.int B.nil))) B.nil))))) g.m_SlowError z41_.nd
   (fun ea=>B.sone (B.set 3 z41_.nd (SW.B.callH F_law_kind (SW.RoomH.of hr.up) (B.cons (B.v 4) B.nil)))))
  (B.sone (B.ret (B.v 3))))),?_⟩
 walk_at "W";refine wTryB ?_;walk_at "W";rcases hc with ⟨rfl | rfl,hn,q⟩ | ⟨rfl,hn,q⟩ | ⟨rfl,⟨i,rfl,hi⟩,q⟩
 · refine iteY rfl ?_
   walk_at "W";refine wS S ⟨by decide +kernel,by decide +kernel,by decide +kernel⟩ ?_
   walk_at "W";refine⟨p,_,_,f,m,R,F,rfl,S,hd,.inr ⟨hn,CP,rfl,g.s_NoPlace,fun ea hea=>?_⟩⟩;have s2:=Same.new (o:=excO ea CP) hea;have ee:upd H ea (excO ea CP) ea=some (excO ea CP):=upd_same;generalize upd H ea (excO ea CP)=H2 at *;walk_at "W";refine⟨ea,CP,rfl,ee,.inl ⟨rfl,fun H' s'=>?_⟩⟩;walk_at "W"
   dsimp only
   walk_at "W";exact q H' (s2.trans s')
 · refine iteNo (by decide) ?_
   walk_at "W";refine iteY rfl ?_;walk_at "W";refine wS S ⟨by decide +kernel,by decide +kernel,by decide +kernel⟩ ?_
   walk_at "W";refine⟨p,_,_,f,m,R,F,rfl,S,hd,hn,CP,rfl,g.s_NoPlace,fun ea hea=>?_⟩;have s2:=Same.new (o:=excO ea CP) hea;have ee:upd H ea (excO ea CP) ea=some (excO ea CP):=upd_same;generalize upd H ea (excO ea CP)=H2 at *;walk_at "W";refine⟨ea,CP,rfl,ee,.inl ⟨rfl,fun H' s'=>?_⟩⟩;walk_at "W"
   dsimp only
   walk_at "W";exact q H' (s2.trans s')
 · refine iteNo (by decide) ?_
   walk_at "W";refine iteNo (by decide) ?_
   walk_at "W";refine⟨by show(2:Nat)<=sizeLine;omega,fun t ht=>?_⟩
   have s1:=Same.new (o:=.tup [.int 1,.int 0]) ht;have hd1:=hd.same s1;generalize upd H t (.tup [.int 1,.int 0])=H1 at *;walk_at "W";intro x dx hx hdx nx;have s3:=Same.new (o:=.own x) hdx;have s4:Same H1 (upd (upd H1 dx (.own x)) x (.ins C dx [])):=s3.trans (Same.new (by rw[upd_ne nx.symm];exact hx))
   have hd2:=hd1.same s4;generalize upd (upd H1 dx (.own x)) x (.ins C dx [])=H3 at *;refine⟨x,v,_,dd,rfl,hd2,hn,CZ,rfl,g.s_NoSize,fun ea hea=>?_⟩;have s2:=((s1.trans s4).trans (Same.new (o:=excO ea CZ) hea));have ee:upd H3 ea (excO ea CZ) ea=some (excO ea CZ):=upd_same;generalize upd H3 ea (excO ea CZ)=H2 at *;walk_at "W";refine⟨ea,CZ,rfl,ee,.inr ⟨rfl,fun H' s'=>?_⟩⟩;walk_at "W"
   dsimp only
   walk_at "W";exact q H' (s2.trans s')
 refine iteY rfl ?_;walk_at "W";refine wS S ⟨by decide +kernel,by decide +kernel,by decide +kernel⟩ ?_
 walk_at "W";refine⟨p,_,_,f,m,R,F,rfl,S,hd,.inl ⟨i,rfl,hi,fun l xs H' s' _ _ _=>?_⟩⟩;walk_at "W";exact q H' s'
def ix7(n:Nat):List Int:=[0,1,2,3,(n:Int) - 1]
def rw7(R:MRows):List MRow:=(ix7 R.length).map fun z=>R.getD z.toNat []
def rowD7(r:MRow):PyData:=.list (r.map fun p=>.tuple [.int p.1,.int p.2])
def lkD(R:MRows):PyData:=.list ((rw7 R).map rowD7++[.int (tot R:Nat),.int R.length])
def Lk7(H0 H:Hp)(D:Addr)(l:Addr)(r:MRow):Prop:=H0 l=none/\l≠D /\ ∃ xs,H l=some (.lst xs)/\Prs H xs r
def spLooks7(K:W.Frag)(C:Addr):Sp:=fun vs H Q _=>∃(p:Addr) (n:Nat) (f m:Int) (R:MRows) (F:Addr->Prop),vs=[.ref p,.int n]/\Sh C H p f m R F/\R.length=n/\4<=n /\
 ∀ l H',Same H H'->H l=none->(∀ G:Hp,(∀ b o,H' b=some o->(H b=none ∨ ∃ xs,o=.tup xs)->G b=some o)->DatV K G (.ref l) (lkD R))->Q (.ref l) H'
theorem datvs_app{K:W.Frag}{H:Hp}{ys:List V}{es:List PyData}(g:DatVs K H ys es):∀{xs:List V}{ds:List PyData},DatVs K H xs ds->DatVs K H (xs++ys) (ds++es)
 | _,_,.nil=>g
 | _,_,.cons h r=>.cons h (datvs_app g r)
theorem lk7_dat{K:W.Frag}{H0 H G:Hp}{D:Addr}(hG:∀ b o,H b=some o->(H0 b=none ∨ ∃ xs,o=.tup xs)->G b=some o):∀{ls:List Addr}{rs:List MRow},Paired (Lk7 H0 H D) ls rs->DatVs K G (ls.map V.ref) (rs.map rowD7)
 | _,_,.nil=>.nil
 | _,_,.cons ⟨h1,_,xs,h2,pr⟩ t=>.cons (.lst (SqL.of (hG _ _ h2 (.inl h1))) (Prs.dat (pr.keep fun a ys e=>hG _ _ e (.inr ⟨_,rfl⟩)))) (lk7_dat hG t)
theorem q13_(d:Dfn K mg "_law_looks" z17_ ["shelf","size"])(g:Gs K mg C CE CP CZ CR CV)(q32_:Mt P w K mg base C "row" 3 ["self","place"] (spSRow C))(q34_:Mt P w K mg base C "size" 1 ["self"] (spSSize C))(q29_:Mt P w K mg base C "many" 1 ["self"] (spSMany C)):Fn P w K mg base "_law_looks" 4 ["shelf","size"] (spLooks7 K C):=by
 refine d.fn z44_ (fun vs H Q E h=>?_) (fun f cdv A outer s H vs Q E hr h=>?_)
 · obtain⟨p,n,f,m,R,F,rfl,_⟩:=h
   rfl
 obtain⟨p,n,f,m,R,F,rfl,S,hn,h4,q⟩:=h;have lim:sizeLine=16777216:=sizeLine_eq;refine⟨_,(B.sone (B.ret (B.op op_cat (SW.B.comp [0] ["place","shelf"] (SW.CompScope.of rfl rfl (by decide +kernel) (by decide +kernel) rfl ⟨rfl,trivial⟩ rfl rfl rfl) (by decide +kernel) (B.ilist (B.lst (B.cons B.int (B.cons B.int (B.cons B.int (B.cons B.int (B.cons (B.op op_sub (B.v 1) B.int) B.nil))))))) (fun _ _ _ _=>(B.meth (B.v 1) g.cl_Shelf q32_ hr.up (B.cons (B.v 0) B.nil)))) (B.lst (B.cons (B.meth0 (B.v 0) g.cl_Shelf q29_ hr.up) (B.cons (B.meth0 (B.v 0) g.cl_Shelf q34_ hr.up) B.nil)))))),?_⟩
 walk_at "W";refine⟨by show(5:Nat)<=sizeLine;omega,fun l0 h0=>?_⟩
 have s1:=Same.new (o:=.lst [.int 0,.int 1,.int 2,.int 3,.int ((n:Int) - 1)]) h0;have e1:upd H l0 (.lst [.int 0,.int 1,.int 2,.int 3,.int ((n:Int) - 1)]) l0=some (.lst ((ix7 n).map V.int)):=upd_same;have S1:=S.same s1;generalize upd H l0 (.lst [.int 0,.int 1,.int 2,.int 3,.int ((n:Int) - 1)])=H1 at *;walk_at "W";refine⟨l0,rfl,⟨_,SqL.of e1⟩,fun D hD=>?_⟩;refine comp_listU (xs:=(ix7 n).map V.int) (fun i σ' H'=>∃(v:Option V) (ls:List Addr),σ'=[v,some (.ref p)]/\ls.length=i/\H' D=some (.lst (ls.map V.ref))/\Same H1 H'/\Paired (Lk7 H H' D) ls (((ix7 n).take i).map fun z=>R.getD z.toNat [])) ⟨none,[],rfl,rfl,upd_same,Same.new hD,.nil⟩ (fun i σ' H' _ ⟨v,ls,_,_,_,s',_⟩=>SqL.of (s' _ _ e1)) ?_ ?_
 · rintro i x σ' H' hx hi ⟨v,ls,rfl,hl,hD',s',pr⟩
   obtain⟨z,rfl⟩:=getInt hx;have hz:(ix7 n)[i]?=some z:=by
    rw[List.getElem?_map]at hx;obtain⟨y,e,e2⟩:=Option.map_eq_some_iff.mp hx;cases e2;exact e
   have zb:0<=z/\z < (n:Int):=by
    have:=List.mem_of_getElem? hz;unfold ix7 at this;simp only[List.mem_cons,List.not_mem_nil,or_false]at this;omega
   have S2:=S1.same s';walk_at "W";refine wS S2 ⟨by decide +kernel,by decide +kernel,by decide +kernel⟩ ?_
   walk_at "W";refine wSRow S2 zb.1 (by omega) fun l xs H2 s2 nl hl2 pr2=>?_
   have nlD:l≠D:=(ne_of_none hD' nl).symm;have kp:∀ b o,b≠D->H' b=some o->upd H2 D (.lst (ls.map V.ref++[.ref l])) b=some o:=fun b o n e=>by rw[upd_ne n];exact s2 _ _ e
   have tk:∀ a ys,H2 a=some (.tup ys)->upd H2 D (.lst (ls.map V.ref++[.ref l])) a=some (.tup ys):=fun a ys e=>by
    rw[upd_ne (ne_of e (s2 _ _ hD') (by intro z;cases z))];exact e
   refine CN.mk hi (ys:=ls.map V.ref) (s2 _ _ hD') (by rw[List.length_map,hl];simp only[List.length_map,ix7,List.length_cons,List.length_nil]at hi;omega) ⟨_,ls++[l],rfl,by rw[List.length_append,hl];rfl,by rw[upd_same,List.map_append];rfl,fun b o e=>kp _ _ (ne_of_none e hD) (s' _ _ e),?_⟩
   rw[List.take_succ,hz];simp only[Option.toList_some,List.map_append,List.map_cons,List.map_nil];refine SW.paired_snoc (Paired.mapP pr fun l' r ⟨a1,a2,ys,a3,a4⟩=>⟨a1,a2,ys,kp _ _ a2 a3,a4.keep fun a zs e=>tk a zs (s2 _ _ e)⟩) ⟨(s1.trans s').free nl,nlD,xs,by rw[upd_ne nlD];exact hl2,pr2.keep tk⟩
 rintro σ' H' ⟨v,ls,rfl,hl,hD',s',pr⟩;have S2:=S1.same s';have pr:Paired (Lk7 H H' D) ls (rw7 R):=by
  rw[List.take_of_length_le (by rw[List.length_map];exact Nat.le_refl _)]at pr
  subst hn;exact pr
 have hl5:ls.length=5:=hl;walk_at "W";refine wS S2 ⟨by decide +kernel,by decide +kernel,by decide +kernel⟩ ?_
 walk_at "W";refine⟨p,f,m,R,F,rfl,S2,?_⟩;walk_at "W";refine wS S2 ⟨by decide +kernel,by decide +kernel,by decide +kernel⟩ ?_
 walk_at "W";refine⟨p,f,m,R,F,rfl,S2,?_⟩;walk_at "W";refine⟨by show(2:Nat)<=sizeLine;omega,fun l2 h2=>?_⟩
 have s3:=Same.new (o:=.lst [.int (tot R:Nat),.int R.length]) h2;have e3:upd H' l2 (.lst [.int (tot R:Nat),.int R.length]) l2=some (.lst [.int (tot R:Nat),.int R.length]):=upd_same;have hD3:=s3 _ _ hD';generalize upd H' l2 (.lst [.int (tot R:Nat),.int R.length])=H3 at *;refine⟨D,l2,_,_,rfl,rfl,hD3,e3,by rw[List.length_map,hl5];show 5+2<=sizeLine;omega,fun l hl=>?_⟩
 have s4:=Same.new (o:=.lst (ls.map V.ref++[.int (tot R:Nat),.int R.length])) hl;have sa:=(s1.trans s').trans s3;refine q l _ (sa.trans s4) (sa.free hl) fun G hG=>?_;refine .lst (SqL.of (hG l _ upd_same (.inl (sa.free hl)))) (datvs_app (.cons (.int _) (.cons (.int _) .nil)) (lk7_dat (H0:=H) (H:=H') (D:=D) (fun b o e z=>hG b o (s4 _ _ (s3 _ _ e)) z) pr))
def spRight7(C:Addr):Sp:=fun vs H Q _=>∃(p sh:Addr) (n:Nat) (f m:Int) (R:MRows) (F:Addr->Prop),vs=[.ref p,.ref sh,.int n]/\Row H p/\Sh C H sh f m R F /\ ¬ F p/\R.length=n/\isSize n /\ ∀ H',Row H' p->KeepBut p H H'->Q (.bl true) H'
def Bad(P:PyData->Bool)(H:Hp)(xs:List V):Prop:=∀ x∈xs,∃ d,Any H x d/\P d=false
theorem Bad.same{P:PyData->Bool}{H H':Hp}{xs:List V}(h:Bad P H xs)(s:Same H H'):Bad P H' xs:=fun x hx=>let⟨d,a,b⟩:=h x hx;⟨d,a.same s,b⟩
theorem Bad.app{P:PyData->Bool}{H:Hp}{xs ys:List V}(h:Bad P H xs)(g:Bad P H ys):Bad P H (xs++ys):=fun x hx=>(List.mem_append.mp hx).elim (h x) (g x)
theorem Bad.of{P:PyData->Bool}{H:Hp}{xs:List V}{ds:List PyData}(h:Anys H xs ds)(hP:ds.all (fun d=>!P d)=true):Bad P H xs:=fun x hx=>by
 obtain⟨i,e⟩:=List.mem_iff_getElem?.mp hx;obtain⟨d,e2,a⟩:=h.get e;have:=List.all_eq_true.mp hP d (List.mem_of_getElem? e2);exact⟨d,a,by simpa using this⟩
theorem sh_but{C:Addr}{H H':Hp}{sh p:Addr}{f m:Int}{R:MRows}{F:Addr->Prop}(S:Sh C H sh f m R F)(r:Row H p)(k:KeepBut p H H')(h1:¬ F p):Sh C H' sh f m R F:=
 S.keep (G:=fun b=>b=p) (fun b o n e=>k b o n e) (fun b hb e=>h1 (e ▸ hb)) fun b xs h=>by
  obtain⟨_,_,_,e,_⟩:=r;exact ne_of h e (by intro z;cases z)
theorem log_small{v:Int}(h:v.natAbs < 10 ^ 10):v.natAbs.log2 < 1920:=by
 by_cases z:v.natAbs=0
 · rw[z];decide
 rw[Nat.log2_lt z];exact Nat.lt_trans h (by decide)
theorem prs7_lay:∀ r:MRow,PyData.canLayAll0 (r.map fun p=>PyData.tuple [.int p.1,.int p.2])=true
 | []=>rfl
 | _::r=>prs7_lay r
theorem prs7_deep:∀ r:MRow,PyData.depthAll (r.map fun p=>PyData.tuple [.int p.1,.int p.2])<=5
 | []=>by decide
 | _::r=>by
   have:=prs7_deep r;simp only[List.map_cons,PyData.depthAll,PyData.depth];omega
theorem lk_lay{a b:Int}:∀ rs:List MRow,PyData.canLayAll0 (rs.map rowD7++[PyData.int a,.int b])=true
 | []=>rfl
 | r::rs=>by
   show(PyData.canLayAll0 _ && PyData.canLayAll0 (rs.map rowD7++[PyData.int a,.int b]))=true;rw[prs7_lay r,lk_lay rs];rfl
theorem lk_deep{a b:Int}:∀ rs:List MRow,PyData.depthAll (rs.map rowD7++[PyData.int a,.int b])<=10
 | []=>by simp[PyData.depthAll,PyData.depth]
 | r::rs=>by
   have h1:=prs7_deep r;have h2:=lk_deep (a:=a) (b:=b) rs;simp only[List.map_cons,List.cons_append,PyData.depthAll,PyData.depth,rowD7];omega
theorem q19_(d:Dfn K mg "_law_right" z20_ ["row","shelf","size"])(g:Gs K mg C CE CP CZ CR CV)(q11_:Fn P w K mg base "_law_take" 1 ["row","many"] spTake)(q5_:Fn P w K mg base "_law_asked" 5 ["shelf","way","thing"] (spAsked7 C))(q7_:Fn P w K mg base "_law_looks" 4 ["shelf","size"] (spLooks7 K C)):Fn P w K mg base "_law_right" 6 ["row","shelf","size"] (spRight7 C):=by
 refine d.fn z47_ (fun vs H Q E h=>?_) (fun f cdv A outer s H vs Q E hr h=>?_)
 · obtain⟨p,sh,n,f,m,R,F,rfl,_⟩:=h
   rfl
 obtain⟨p,sh,n,f,m,R,F,rfl,rp,S,nF,hn,hz,q⟩:=h;have lim:sizeLine=16777216:=sizeLine_eq;have bn:=hz.bounds;refine⟨_,(B.scons (B.set 3 z47_.nd (B.lst (B.cons B.non (B.cons B.bl (B.cons B.bl (B.cons B.str (B.cons B.str (B.cons (B.lst B.nil) (B.cons (B.lst (B.cons B.int B.nil)) (B.cons B.dnew (B.cons (B.tup (B.cons B.int B.nil)) (B.cons (B.tup B.nil) (B.cons (B.un un_neg B.int) (B.cons (B.op op_pow B.int B.int) (B.cons (B.un un_neg (B.op op_pow B.int B.int)) B.nil)))))))))))))))
  (B.scons (B.set 4 z47_.nd (B.fn q7_ hr.up (B.cons (B.v 1) (B.cons (B.v 2) B.nil))))
  (B.scons (B.fors (B.ilist (B.op op_cat (B.v 3) (B.lst (B.cons (B.v 2) (B.cons (B.op op_add (B.v 2) B.int) (B.cons (B.op op_sub (B.un un_neg B.int) (B.fn q11_ hr.up (B.cons (B.v 0) (B.cons (B.op op_pow B.int B.int) B.nil)))) (B.cons (B.op op_add (B.v 2) (B.fn q11_ hr.up (B.cons (B.v 0) (B.cons (B.op op_pow B.int B.int) B.nil)))) B.nil))))))) (B.gname (i:=5) z47_.nd) (B.sone (B.ifs (B.tw (B.wor (B.tcmp op_ne (B.fn q5_ hr.up (B.cons (B.v 1) (B.cons B.int (B.cons (B.v 5) B.nil)))) B.str) (B.wor1 (B.tcmp op_ne (B.fn q5_ hr.up (B.cons (B.v 1) (B.cons B.int (B.cons (B.v 5) B.nil)))) B.str)))) (B.sone (B.ret B.bl)) B.snil)))
  (B.scons (B.set 6 z47_.nd (B.lst (B.cons B.int (B.cons B.int (B.cons B.int (B.cons B.int (B.cons B.int (B.cons B.int (B.cons B.int (B.cons B.int (B.cons B.int (B.cons B.int (B.cons B.int (B.cons B.int (B.cons (B.op op_add (B.v 2) B.int) (B.cons (B.op op_add (B.op op_sub (B.v 2) B.int) (B.cT call_int1 g.b_int SW.b_int (B.cons (B.cmp op_eq (B.v 2) B.int) B.nil))) B.nil))))))))))))))))
  (B.scons (B.fors (B.ilist (B.op op_cat (B.op op_cat (B.v 3) (B.v 6)) (B.lst (B.cons (B.op op_mul B.int (B.v 2)) (B.cons (B.op op_mul B.int (B.v 2)) (B.cons B.str (B.cons B.str (B.cons (B.cT call_str_int g.b_str SW.b_str (B.cons (B.v 2) B.nil)) (B.cons (B.lst (B.cons (B.v 2) B.nil)) (B.cons (B.tup (B.cons B.int B.nil)) (B.cons (B.lst (B.cons B.int B.nil)) B.nil))))))))))) (B.gname (i:=5) z47_.nd) (B.sone (B.ifs (B.tcmp op_ne (B.fn q5_ hr.up (B.cons (B.v 1) (B.cons B.int (B.cons (B.v 5) B.nil)))) B.str) (B.sone (B.ret B.bl)) B.snil)))
  (B.sone (B.ret (B.and (B.cmp (op_eqD K hr.units) (B.fn q7_ hr.up (B.cons (B.v 1) (B.cons (B.v 2) B.nil))) (B.v 4)) (B.one (B.cmp op_eq (B.fn q5_ hr.up (B.cons (B.v 1) (B.cons B.int (B.cons (B.op op_sub (B.v 2) B.int) B.nil)))) B.str)))))))))),?_⟩
 walk_at "W";refine⟨by show(0:Nat)<=sizeLine;omega,fun l1 h1=>?_⟩
 have n1:=(rp.ne0 h1).symm;have s1:=Same.new (o:=.lst []) h1;have e1:upd H l1 (.lst []) l1=some (.lst []):=upd_same;have r1:=rp.same s1;generalize upd H l1 (.lst [])=H1 at *;walk_at "W";refine⟨by show(1:Nat)<=sizeLine;omega,fun l2 h2=>?_⟩
 have n2:=(r1.ne0 h2).symm;have s2:=Same.new (o:=.lst [.int 0]) h2;have e2:upd H1 l2 (.lst [.int 0]) l2=some (.lst [.int 0]):=upd_same;have r2:=r1.same s2;have e1:=s2 _ _ e1;have s2:=s1.trans s2;generalize upd H1 l2 (.lst [.int 0])=H2 at *;walk_at "W";intro l3 h3;have n3:=(r2.ne0 h3).symm;have s3:=Same.new (o:=.dK []) h3;have e3:upd H2 l3 (.dK []) l3=some (.dK []):=upd_same;have r3:=r2.same s3;have e1:=s3 _ _ e1;have e2:=s3 _ _ e2;have s3:=s2.trans s3;generalize upd H2 l3 (.dK [])=H3 at *;walk_at "W";refine⟨by show(1:Nat)<=sizeLine;omega,fun l4 h4=>?_⟩
 have n4:=(r3.ne0 h4).symm;have s4:=Same.new (o:=.tup [.int 0]) h4;have e4:upd H3 l4 (.tup [.int 0]) l4=some (.tup [.int 0]):=upd_same;have r4:=r3.same s4;have e1:=s4 _ _ e1;have e2:=s4 _ _ e2;have e3:=s4 _ _ e3;have s4:=s3.trans s4;generalize upd H3 l4 (.tup [.int 0])=H4 at *;walk_at "W";refine⟨by show(0:Nat)<=sizeLine;omega,fun l5 h5=>?_⟩
 have n5:=(r4.ne0 h5).symm;have s5:=Same.new (o:=.tup []) h5;have e5:upd H4 l5 (.tup []) l5=some (.tup []):=upd_same;have r5:=r4.same s5;have e1:=s5 _ _ e1;have e2:=s5 _ _ e2;have e3:=s5 _ _ e3;have e4:=s5 _ _ e4;have s5:=s4.trans s5;generalize upd H4 l5 (.tup [])=H5 at *;walk_at "W";have e30:(10:Int) ^ (Int.toNat 30)=1000000000000000000000000000000:=by decide
 rw[e30];obtain⟨oddV,hodd⟩:∃ xs:List V,xs=[.non,.bl true,.bl false,.str (Str.ofString "0"),.str (Str.ofString ""),.ref l1,.ref l2,.ref l3,.ref l4,.ref l5,.int (-1),.int 1000000000000000000000000000000,.int (-1000000000000000000000000000000)]:=⟨_,rfl⟩;rw[← hodd];have lo:oddV.length=13:=by rw[hodd];rfl
 refine⟨by omega,fun la ha=>?_⟩
 have na:=(r5.ne0 ha).symm;have s6:=Same.new (o:=.lst oddV) ha;have ea:upd H5 la (.lst oddV) la=some (.lst oddV):=upd_same;have r6:=r5.same s6;have e1:=s6 _ _ e1;have e2:=s6 _ _ e2;have e3:=s6 _ _ e3;have e4:=s6 _ _ e4;have e5:=s6 _ _ e5;have s6:=s5.trans s6;generalize upd H5 la (.lst oddV)=H6 at *;have lp:∀{b:Addr}{o:HO},b≠p->H6 b=some o->less p H6 b=some o:=fun n e=>by
  unfold less;rw[if_neg n];exact e
 have od:Anys (less p H6) oddV [.none,.bool true,.bool false,.str (Str.ofString "0"),.str (Str.ofString ""),.list [],.list [.int 0],.dict [],.tuple [.int 0],.tuple [],.int (-1),.int 1000000000000000000000000000000,.int (-1000000000000000000000000000000)]:=by
  rw[hodd];exact .cons .non (.cons (.bl _) (.cons (.bl _) (.cons (.str _) (.cons (.str _) (.cons (.lst (lp n1 e1) .nil) (.cons (.lst (lp n2 e2) (.cons (.int _) .nil)) (.cons (.dic (lp n3 e3)) (.cons (.tup (lp n4 e4) (.cons (.int _) .nil)) (.cons (.tup (lp n5 e5) .nil) (.cons (.int _) (.cons (.int _) (.cons (.int _) .nil))))))))))))
 have odP:Bad (plcD n) (less p H6) oddV:=Bad.of od (by
  have c1:decide ((1000000000000000000000000000000:Int) < (n:Int))=false:=decide_eq_false (by omega)
  simp[plcD,c1])
 have odZ:Bad szD (less p H6) oddV:=Bad.of od (by decide +kernel)
 have S6:=S.same s6;clear e1 e2 e3 e4 e5 n1 n2 n3 n4 n5 h1 h2 h3 h4 h5 ha s1 s2 s3 s4 s5 r1 r2 r3 r4 r5 e30 od hodd lp;walk_at "W";refine⟨sh,n,f,m,R,F,rfl,S6,hn,bn.1,fun lh H7 s7 hlh dat=>?_⟩;have r7:=r6.same s7;have ea7:=s7 _ _ ea;walk_at "W";refine wTake r7 (by decide) (by decide) fun ra H8 a0 a1 r8 K8=>?_
 walk_at "W";refine wTake r8 (by decide) (by decide) fun rb H9 b0 b1 r9 K9=>?_
 have K69:KeepBut p H6 H9:=((Same.but s7).trans K8).trans K9;have ea9:=K69 _ _ na ea;walk_at "W";refine⟨by show(4:Nat)<=sizeLine;omega,fun lb hb=>?_⟩
 have s10:=Same.new (o:=.lst [.int n,.int ((n:Int)+1),.int (-1 - ra),.int ((n:Int)+rb)]) hb;have e10:upd H9 lb (.lst [.int n,.int ((n:Int)+1),.int (-1 - ra),.int ((n:Int)+rb)]) lb=some (.lst [.int n,.int ((n:Int)+1),.int (-1 - ra),.int ((n:Int)+rb)]):=upd_same;have ea10:=s10 _ _ ea9;have r10:=r9.same s10;have K610:=K69.trans (Same.but s10);generalize upd H9 lb (.lst [.int n,.int ((n:Int)+1),.int (-1 - ra),.int ((n:Int)+rb)])=H10 at *;walk_at "W";refine⟨la,lb,_,_,rfl,rfl,ea10,e10,by rw[lo];show 13+4<=sizeLine;omega,fun lc hc=>?_⟩
 have s11:=Same.new (o:=.lst (oddV++[.int n,.int ((n:Int)+1),.int (-1 - ra),.int ((n:Int)+rb)])) hc;have e11:upd H10 lc (.lst (oddV++[.int n,.int ((n:Int)+1),.int (-1 - ra),.int ((n:Int)+rb)])) lc=some (.lst (oddV++[.int n,.int ((n:Int)+1),.int (-1 - ra),.int ((n:Int)+rb)])):=upd_same;have ea11:=s11 _ _ ea10;have r11:=r10.same s11;have K611:=K610.trans (Same.but s11);generalize upd H10 lc (.lst (oddV++[.int n,.int ((n:Int)+1),.int (-1 - ra),.int ((n:Int)+rb)]))=H11 at *;have S11:=sh_but S6 r6 K611 nF;have odP11:Bad (plcD n) H11 (oddV++[.int n,.int ((n:Int)+1),.int (-1 - ra),.int ((n:Int)+rb)]):=((odP.same (less_keep K611)).same (less_le p H11)).app fun x hx=>by
  simp only[List.mem_cons,List.not_mem_nil,or_false]at hx;rcases hx with rfl | rfl | rfl | rfl
  · exact⟨_,.int _,by simp[plcD]⟩
  · exact⟨_,.int _,by simp[plcD];omega⟩
  · exact⟨_,.int _,by simp[plcD];omega⟩
  exact⟨_,.int _,by simp[plcD];omega⟩
 have odZ11:Bad szD H11 oddV:=(odZ.same (less_keep K611)).same (less_le p H11);have K711:KeepBut p H7 H11:=((K8.trans K9).trans (Same.but s10)).trans (Same.but s11);clear s10 e10 ea10 r10 K610 s11 hc hb K69 ea9 r9 K9 K8 r8;refine⟨lc,rfl,⟨_,SqL.of e11⟩,?_⟩;refine SW.forListC (xs:=oddV++[.int n,.int ((n:Int)+1),.int (-1 - ra),.int ((n:Int)+rb)]) (fun i σ H'=>∃ v:Option V,σ=[some (.ref p),some (.ref sh),some (.int n),some (.ref la),some (.ref lh),v,none]/\Same H11 H') ⟨none,rfl,fun _ _ e=>e⟩ ?_ ?_ ?_
 · rintro i σ H' _ ⟨v,rfl,s'⟩
   exact SqL.of (s' _ _ e11)
 · rintro i y σ H' hi ⟨v,rfl,s'⟩
   intro N3 hN3;obtain⟨dy,ay,py⟩:=odP11 y (List.mem_of_getElem? hi);walk_at "W";refine⟨sh,0,y,dy,f,m,R,F,rfl,S11.same s',ay.same s',.inl ⟨.inl rfl,by rw[hn];exact py,fun H12 s12=>?_⟩⟩
   walk_at "W";refine⟨rfl,_,rfl,?_⟩;refine iteNS rfl ?_;walk_at "W";refine⟨sh,1,y,dy,f,m,R,F,rfl,S11.same (s'.trans s12),ay.same (s'.trans s12),.inl ⟨.inr rfl,by rw[hn];exact py,fun H13 s13=>?_⟩⟩
   walk_at "W";refine⟨rfl,?_⟩;walk_at "W";refine iteNS rfl ?_;walk_at "W";subst hN3;exact⟨_,rfl,(s'.trans s12).trans s13⟩
 rintro σ H12 ⟨v,rfl,s12⟩
 dsimp only
 walk_at "W";have n5:¬ decide (V.int (n:Int)=V.int 5)=true:=fun z=>by
  have:=V.int.inj (of_decide_eq_true z);unfold isSize at hz;simp only[List.mem_cons,List.not_mem_nil,or_false]at hz;omega
 rw[if_neg n5];obtain⟨szs,hszs⟩:∃ xs:List V,xs=[V.int 0,V.int 1,V.int 2,V.int 3,V.int 5,V.int 6,V.int 12,V.int 4095,V.int 4097,V.int 8192,V.int 16384,V.int 65536,V.int ((n:Int)+1),V.int ((n:Int) - 1+0)]:=⟨_,rfl⟩;rw[← hszs];have ls:szs.length=14:=by rw[hszs];rfl
 have zb:Bad szD H12 szs:=fun x hx=>by
  rw[hszs]at hx;unfold isSize at hz;simp only[List.mem_cons,List.not_mem_nil,or_false]at hx hz;rcases hx with rfl | rfl | rfl | rfl | rfl | rfl | rfl | rfl | rfl | rfl | rfl | rfl | rfl | rfl
  all_goals refine⟨_,.int _,?_⟩
  all_goals first
   | decide
   | (rcases hz with rfl | rfl | rfl | rfl | rfl | rfl | rfl | rfl | rfl | rfl | rfl <;> decide)
 refine⟨by omega,fun lz h13=>?_⟩
 have s13:=Same.new (o:=.lst szs) h13;have e13:upd H12 lz (.lst szs) lz=some (.lst szs):=upd_same;have z13:=zb.same s13;have s13:=s12.trans s13;generalize upd H12 lz (.lst szs)=H13 at *;walk_at "W";refine⟨la,lz,_,_,rfl,rfl,s13 _ _ ea11,e13,by rw[lo,ls];omega,fun lx h14=>?_⟩
 have s14:=Same.new (o:=.lst (oddV++szs)) h14;have e14:upd H13 lx (.lst (oddV++szs)) lx=some (.lst (oddV++szs)):=upd_same;have z14:Bad szD _ (oddV++szs):=((odZ11.same s13).app z13).same s14;have s14:=s13.trans s14;generalize upd H13 lx (.lst (oddV++szs))=H14 at *;walk_at "W";refine⟨_,rfl,log_small (show((n:Int)).natAbs < 10 ^ 10 by rw[show(10:Nat) ^ 10=10000000000 by decide];omega),?_⟩
 walk_at "W";refine⟨by show(1:Nat)<=sizeLine;omega,fun m1 h15=>?_⟩
 have s15:=Same.new (o:=.lst [.int n]) h15;have f1:upd H14 m1 (.lst [.int n]) m1=some (.lst [.int n]):=upd_same;have e14:=s15 _ _ e14;have z14:=z14.same s15;have s15:=s14.trans s15;generalize upd H14 m1 (.lst [.int n])=H15 at *;walk_at "W";refine⟨by show(1:Nat)<=sizeLine;omega,fun m2 h16=>?_⟩
 have s16:=Same.new (o:=.tup [.int 8]) h16;have f2:upd H15 m2 (.tup [.int 8]) m2=some (.tup [.int 8]):=upd_same;have e14:=s16 _ _ e14;have f1:=s16 _ _ f1;have z14:=z14.same s16;have s16:=s15.trans s16;generalize upd H15 m2 (.tup [.int 8])=H16 at *;walk_at "W";refine⟨by show(1:Nat)<=sizeLine;omega,fun m3 h17=>?_⟩
 have s17:=Same.new (o:=.lst [.int 4]) h17;have f3:upd H16 m3 (.lst [.int 4]) m3=some (.lst [.int 4]):=upd_same;have e14:=s17 _ _ e14;have f1:=s17 _ _ f1;have f2:=s17 _ _ f2;have z14:=z14.same s17;have s17:=s16.trans s17;generalize upd H16 m3 (.lst [.int 4])=H17 at *;walk_at "W";obtain⟨sx,hsx⟩:∃ xs:List V,xs=[V.int (3*(n:Int)),V.int (5*(n:Int)),V.str (Str.ofString "8"),V.str (Str.ofString "4096"),V.str (Str.ofString (toString (n:Int))),V.ref m1,V.ref m2,V.ref m3]:=⟨_,rfl⟩;rw[← hsx];have lx8:sx.length=8:=by rw[hsx];rfl
 have xb:Bad szD H17 sx:=fun x hx=>by
  rw[hsx]at hx;unfold isSize at hz;simp only[List.mem_cons,List.not_mem_nil,or_false]at hx hz;rcases hx with rfl | rfl | rfl | rfl | rfl | rfl | rfl | rfl
  · exact⟨_,.int _,by rcases hz with rfl | rfl | rfl | rfl | rfl | rfl | rfl | rfl | rfl | rfl | rfl <;> decide⟩
  · exact⟨_,.int _,by rcases hz with rfl | rfl | rfl | rfl | rfl | rfl | rfl | rfl | rfl | rfl | rfl <;> decide⟩
  · exact⟨_,.str _,rfl⟩
  · exact⟨_,.str _,rfl⟩
  · exact⟨_,.str _,rfl⟩
  · exact⟨_,.lst f1 (.cons (.int _) .nil),rfl⟩
  · exact⟨_,.tup f2 (.cons (.int _) .nil),rfl⟩
  exact⟨_,.lst f3 (.cons (.int _) .nil),rfl⟩
 refine⟨by omega,fun lk h18=>?_⟩
 have s18:=Same.new (o:=.lst sx) h18;have e18:upd H17 lk (.lst sx) lk=some (.lst sx):=upd_same;have e14:=s18 _ _ e14;have z18:=(z14.app xb).same s18;have s18:=s17.trans s18;generalize upd H17 lk (.lst sx)=H18 at *;walk_at "W";refine⟨lx,lk,_,_,rfl,rfl,e14,e18,by rw[List.length_append,lo,ls,lx8];omega,fun ly h19=>?_⟩
 have s19:=Same.new (o:=.lst (oddV++szs++sx)) h19;have e19:upd H18 ly (.lst (oddV++szs++sx)) ly=some (.lst (oddV++szs++sx)):=upd_same;have z19:=z18.same s19;have s19:=s18.trans s19;generalize upd H18 ly (.lst (oddV++szs++sx))=H19 at *;clear z18 z14 xb hsx hszs e18 e14 f1 f2 f3 zb z13 e13 s13 s14 s15 s16 s17 s18 h13 h14 h15 h16 h17 h18 h19 odP odZ odP11;refine⟨ly,rfl,⟨_,SqL.of e19⟩,?_⟩;refine SW.forListC (xs:=oddV++szs++sx) (fun i σ H'=>∃ v:Option V,σ=[some (.ref p),some (.ref sh),some (.int n),some (.ref la),some (.ref lh),v,some (.ref lz)]/\Same H19 H') ⟨v,rfl,fun _ _ e=>e⟩ ?_ ?_ ?_
 · rintro i σ H' _ ⟨v,rfl,s'⟩
   exact SqL.of (s' _ _ e19)
 · rintro i y σ H' hi ⟨v,rfl,s'⟩
   intro N4 hN4;obtain⟨dy,ay,py⟩:=z19 y (List.mem_of_getElem? hi);walk_at "W";refine⟨sh,2,y,dy,f,m,R,F,rfl,S11.same (s19.trans s'),ay.same s',.inr (.inl ⟨rfl,py,fun H20 s20=>?_⟩)⟩;walk_at "W";refine⟨rfl,?_⟩;walk_at "W";refine iteNS rfl ?_;walk_at "W";subst hN4;exact⟨_,rfl,s'.trans s20⟩
 rintro σ H20 ⟨v,rfl,s20⟩
 dsimp only
 have s20:=s19.trans s20;have S20:=S11.same s20;walk_at "W";refine⟨sh,n,f,m,R,F,rfl,S20,hn,bn.1,fun lq H21 s21 hlq dat2=>?_⟩;walk_at "W";have dah:DatV K H21 (.ref lh) (lkD R):=dat H21 fun b o e z=>s21 _ _ (s20 _ _ (K711 _ _ (by
  rcases z with z | ⟨xs,rfl⟩
  · exact(r6.ne0 z).symm
  exact r7.ne e) e))
 have dq:DatV K H21 (.ref lq) (lkD R):=dat2 H21 fun b o e _=>e;refine wEqSame dq dah (lk_lay _) (by have:=lk_deep (a:=(tot R:Nat)) (b:=R.length) (rw7 R);unfold lkD;simp only[PyData.depth];omega) ?_
 refine⟨_,rfl,?_⟩;rw[if_pos rfl];walk_at "W";refine⟨sh,0,_,.int ((n:Int) - 1),f,m,R,F,rfl,S20.same s21,.int _,.inr (.inr ⟨rfl,⟨n - 1,by congr 1;omega,by omega⟩,fun H22 s22=>?_⟩)⟩
 walk_at "W";refine⟨rfl,?_⟩;rw[decide_eq_true rfl];exact q H22 ((r11.same s20).same (s21.trans s22)) (((Same.but s6).trans K611).trans (Same.but ((s20.trans s21).trans s22)))
theorem sizes7{v:V}(h:v∈szV):∃ n:Nat,v=V.int n/\isSize n:=by
 unfold szV at h;simp only[List.mem_cons,List.not_mem_nil,or_false]at h;rcases h with rfl | rfl | rfl | rfl | rfl | rfl | rfl | rfl | rfl | rfl | rfl
 · exact⟨4,rfl,by decide⟩
 · exact⟨8,rfl,by decide⟩
 · exact⟨16,rfl,by decide⟩
 · exact⟨32,rfl,by decide⟩
 · exact⟨64,rfl,by decide⟩
 · exact⟨128,rfl,by decide⟩
 · exact⟨256,rfl,by decide⟩
 · exact⟨512,rfl,by decide⟩
 · exact⟨1024,rfl,by decide⟩
 · exact⟨2048,rfl,by decide⟩
 exact⟨4096,rfl,by decide⟩
theorem rep_get(n j:Nat):(List.replicate n ([]:MRow)).getD j []=[]:=by
 rw[List.getD_eq_getElem?_getD,List.getElem?_replicate];split <;> rfl
theorem ok_law{f:Addr}{fd:FuncData}(F:Fun K "law" "law" z13_ f fd)(g:Gs K mg C CE CP CZ CR CV)(q27_:Mkr P w K mg base C "Shelf" 3 ["self","size","mixer"] (spSInit C))(q31_:Mt P w K mg base C "put" 4 ["self","key","worth"] (spSPut C))(q34_:Mt P w K mg base C "size" 1 ["self"] (spSSize C))(q32_:Mt P w K mg base C "row" 3 ["self","place"] (spSRow C))(q10_:Fn P w K mg base "_law_stream" 1 ["cell"] spStream)(q11_:Fn P w K mg base "_law_take" 1 ["row","many"] spTake)(q8_:Fn P w K mg base "_law_mixer" 2 ["row"] spMixer)(q6_:Fn P w K mg base "_law_key" 2 ["row"] spKey)(q12_:Fn P w K mg base "_law_worth" 2 ["row"] spWorth)(q9_:Fn P w K mg base "_law_right" 6 ["row","shelf","size"] (spRight7 C)) :
 FnOk P w K mg base CX0 7 f fd ["script"] (spLaw K):=by
 refine fun_bx F z40_ (fun vs H Q E h=>?_) (fun cdv A outer s H vs Q E hr h=>?_)
 · obtain⟨a,ns,rfl,_⟩:=h
   rfl
 obtain⟨a,ns,rfl,hS,hlen,k⟩:=h;have lim:sizeLine=16777216:=sizeLine_eq;refine⟨_,(B.scons (B.set 1 z40_.nd (B.lst (B.cons B.int (B.cons B.int (B.cons B.int (B.cons B.int (B.cons B.int (B.cons B.int (B.cons B.int (B.cons B.int (B.cons B.int (B.cons B.int (B.cons B.int B.nil)))))))))))))
  (B.scons (B.fors (B.ilist (B.v 1)) (B.gname (i:=2) z40_.nd) (B.sone (B.ifs (B.tw (B.wor (B.tcmp op_ne (B.meth0 (B.make q27_ hr.up (B.cons (B.v 2) (B.cons (B.tup (B.cons B.int (B.cons B.int B.nil))) B.nil))) g.cl_Shelf q34_ hr.up) (B.v 2)) (B.wor1 (B.tcmp (op_neD K hr.units) (B.meth (B.make q27_ hr.up (B.cons (B.v 2) (B.cons (B.tup (B.cons B.int (B.cons B.int B.nil))) B.nil))) g.cl_Shelf q32_ hr.up (B.cons (B.op op_sub (B.v 2) B.int) B.nil)) (B.lst B.nil))))) (B.sone (B.ret B.bl)) B.snil)))
  (B.scons (B.fors (B.ilist (B.op op_cat (B.lst (B.cons B.int B.nil)) (B.slice sl_list (B.v 0) B.nopart (B.part B.int)))) (B.gname (i:=3) z40_.nd) (B.scons (B.set 4 z40_.nd (B.fn q10_ hr.up (B.cons (B.v 3) B.nil)))
  (B.scons (B.set 2 z40_.nd (B.ix ix_list (B.v 1) (B.fn q11_ hr.up (B.cons (B.v 4) (B.cons B.int B.nil)))))
  (B.scons (B.set 5 z40_.nd (B.make q27_ hr.up (B.cons (B.v 2) (B.cons (B.fn q8_ hr.up (B.cons (B.v 4) B.nil)) B.nil))))
  (B.scons (B.fors (B.irange g.b_range (B.cons (B.fn q11_ hr.up (B.cons (B.v 4) (B.cons B.int B.nil))) B.nil)) (B.gname (i:=6) z40_.nd) (B.sone (B.expr (B.meth (B.v 5) g.cl_Shelf q31_ hr.up (B.cons (B.fn q6_ hr.up (B.cons (B.v 4) B.nil)) (B.cons (B.fn q12_ hr.up (B.cons (B.v 4) B.nil)) B.nil))))))
  (B.sone (B.ifs (B.tnot (B.tval (B.fn q9_ hr.up (B.cons (B.v 4) (B.cons (B.v 5) (B.cons (B.v 2) B.nil)))))) (B.sone (B.ret B.bl)) B.snil)))))))
  (B.sone (B.ret B.bl))))),?_⟩
 walk_at "W";refine⟨by show(11:Nat)<=sizeLine;omega,fun l1 h1=>?_⟩
 have s1:=Same.new (o:=.lst szV) h1;have e1:upd H l1 (.lst szV) l1=some (.lst szV):=upd_same;have hS:=s1.seq hS;generalize ey:upd H l1 (.lst szV)=H1 at *;rw[show upd H l1 (.lst [.int 4,.int 8,.int 16,.int 32,.int 64,.int 128,.int 256,.int 512,.int 1024,.int 2048,.int 4096])=H1 from ey];walk_at "W";refine⟨l1,rfl,⟨_,SqL.of e1⟩,?_⟩;refine SW.forListC (xs:=szV) (fun i σ H'=>∃ v:Option V,σ=[some (.ref a),some (.ref l1),v,none,none,none,none]/\Same H1 H') ⟨none,rfl,fun _ _ e=>e⟩ ?_ ?_ ?_
 · rintro i σ H' _ ⟨v,rfl,s'⟩
   exact SqL.of (s' _ _ e1)
 · rintro i y σ H2 hi ⟨v,rfl,s'⟩
   intro N3 hN3;obtain⟨n,rfl,hn⟩:=sizes7 (List.mem_of_getElem? hi);have bn:=hn.bounds;walk_at "W";refine⟨by show(2:Nat)<=sizeLine;omega,fun t ht=>?_⟩
   have s3:=Same.new (o:=.tup [.int 1,.int 0]) ht;have et:upd H2 t (.tup [.int 1,.int 0]) t=some (.tup [.int 1,.int 0]):=upd_same;have s3:=s'.trans s3;generalize upd H2 t (.tup [.int 1,.int 0])=H3 at *;walk_at "W";refine wShelf (n:=(n:Int)) et ⟨by decide,by decide⟩ (by omega) (by simpa using hn) fun sh H4 F4 S4 n4 s4=>?_
   have S4:Sh C H4 sh 1 0 (List.replicate n []) F4:=S4;have s4:=s3.trans s4;walk_at "W";refine wS S4 ⟨by decide +kernel,by decide +kernel,by decide +kernel⟩ ?_
   walk_at "W";refine wSSize S4 ?_;walk_at "W";refine iteNS (by rw[List.length_replicate]) ?_
   walk_at "W";refine⟨by show(2:Nat)<=sizeLine;omega,fun t2 ht2=>?_⟩
   have s5:=Same.new (o:=.tup [.int 1,.int 0]) ht2;have et2:upd H4 t2 (.tup [.int 1,.int 0]) t2=some (.tup [.int 1,.int 0]):=upd_same;have s5:=s4.trans s5;generalize upd H4 t2 (.tup [.int 1,.int 0])=H5 at *;walk_at "W";refine wShelf (n:=(n:Int)) et2 ⟨by decide,by decide⟩ (by omega) (by simpa using hn) fun sh2 H6 F6 S6 n6 s6=>?_
   have S6:Sh C H6 sh2 1 0 (List.replicate n []) F6:=S6;have s6:=s5.trans s6;walk_at "W";refine wS S6 ⟨by decide +kernel,by decide +kernel,by decide +kernel⟩ ?_
   walk_at "W";refine wSRow S6 (by omega) (by rw[List.length_replicate];omega) fun lr xs H7 s7 nl hl pr=>?_
   rw[rep_get]at pr;cases pr;have s7:=s6.trans s7;walk_at "W";refine⟨by show(0:Nat)<=sizeLine;omega,fun l8 h8=>?_⟩
   have s8:=Same.new (o:=.lst []) h8;have e8:upd H7 l8 (.lst []) l8=some (.lst []):=upd_same;have hl:=s8 _ _ hl;have s8:=s7.trans s8;generalize upd H7 l8 (.lst [])=H8 at *;refine wNeSame (d:=.list []) (.lst (SqL.of hl) .nil) (.lst (SqL.of e8) .nil) rfl (by decide) ?_
   walk_at "W";rw[if_neg Bool.false_ne_true];walk_at "W";subst hN3;exact⟨_,rfl,s8⟩
 rintro σ H2 ⟨v,rfl,s2⟩
 dsimp only
 walk_at "W";refine⟨by show(1:Nat)<=sizeLine;omega,fun l3 h3=>?_⟩
 have s3:=Same.new (o:=.lst [.int 0]) h3;have e3:upd H2 l3 (.lst [.int 0]) l3=some (.lst [.int 0]):=upd_same;have s3:=s2.trans s3;have hS:=s3.seq hS;generalize upd H2 l3 (.lst [.int 0])=H3 at *;walk_at "W";refine⟨20,rfl,a,_,rfl,hS,fun l4 h4=>?_⟩;obtain⟨cs,ecs,hcs⟩:=cut_ints ns none (some 20);rw[ecs];have s4:=Same.new (o:=.lst (cs.map V.int)) h4;have e4:upd H3 l4 (.lst (cs.map V.int)) l4=some (.lst (cs.map V.int)):=upd_same;have e3:=s4 _ _ e3;have s4:=s3.trans s4;generalize upd H3 l4 (.lst (cs.map V.int))=H4 at *;walk_at "W";refine⟨l3,l4,_,_,rfl,rfl,e3,e4,by rw[List.length_map];show 1+_<=sizeLine;omega,fun l5 h5=>?_⟩
 rw[show[V.int 0]++cs.map V.int=(0::cs).map V.int from rfl];have s5:=Same.new (o:=.lst ((0::cs).map V.int)) h5;have e5:upd H4 l5 (.lst ((0::cs).map V.int)) l5=some (.lst ((0::cs).map V.int)):=upd_same;have e1:=s5 _ _ (s4 _ _ e1);generalize upd H4 l5 (.lst ((0::cs).map V.int))=H5 at *;clear hS e3 e4 s4 s5 h3 h4 h5 s3 s2 s1 ey ecs;refine⟨l5,rfl,⟨_,SqL.of e5⟩,?_⟩;refine SW.forListC (xs:=(0::cs).map V.int) (fun i σ H'=>∃ v2 v3 v4 v5 v6:Option V,σ=[some (.ref a),some (.ref l1),v2,v3,v4,v5,v6]/\Same H5 H') ⟨v,none,none,none,none,rfl,fun _ _ e=>e⟩ ?_ ?_ ?_
 · rintro i σ H' _ ⟨v2,v3,v4,v5,v6,rfl,s'⟩
   exact SqL.of (s' _ _ e5)
 · rintro i y σ H6 hi ⟨v2,v3,v4,v5,v6,rfl,s6⟩
   obtain⟨c,rfl⟩:=getInt hi;intro N3 hN3;have e1:=s6 _ _ e1;walk_at "W";refine wStream fun ph oh hph Rh=>?_;have s7:=Same.new (o:=oh) hph;have e1:=s7 _ _ e1;have nl:=(Rh.neL e1 (by decide))
   generalize upd H6 ph oh=H7 at *;walk_at "W";refine wTake Rh (by decide) (by decide) fun r8 H8 a8 b8 R8 K8=>?_
   obtain⟨y,hy,my⟩:=atI_in (xs:=szV) a8 b8;obtain⟨n,rfl,hn⟩:=sizes7 my;have bn:=hn.bounds;refine wIxL (K8 _ _ nl e1) hy ?_;walk_at "W";refine wMixer R8 fun t H9 M9 R9 K9=>?_;obtain⟨fa,mo,ht,f0,f1,m0,m1⟩:=id M9;walk_at "W";refine wShelf (n:=(n:Int)) ht ⟨f0,f1⟩ (by omega) (by simpa using hn) fun sh H10 F S10 n10 s10=>?_
   have S10:Sh C H10 sh fa mo (List.replicate n []) F:=S10;have R10:=R9.same s10;have sh0:∀ b o,H6 b=some o->b≠ph:=fun b o e=>ne_of_none e hph;have s610:Same H6 H10:=fun b o e=>s10 _ _ (K9 _ _ (sh0 b o e) (K8 _ _ (sh0 b o e) (s7 _ _ e)));have nFp:¬ F ph:=fun z=>by
    obtain⟨_,_,_,e,_⟩:=R9;rw[n10 _ z]at e;cases e
   have nF6:∀ b o,H6 b=some o -> ¬ F b:=fun b o e z=>by
    have:=K9 _ _ (sh0 b o e) (K8 _ _ (sh0 b o e) (s7 _ _ e));rw[n10 _ z]at this;cases this
   walk_at "W";refine wTake R10 (by decide) (by decide) fun r11 H11 a11 b11 R11 K11=>?_
   have S11:=sh_but S10 R10 K11 nFp;have s611:Same H6 H11:=fun b o e=>K11 _ _ (sh0 b o e) (s610 _ _ e);walk_at "W";refine⟨r11,rfl,by omega,by omega,?_⟩
   refine SW.forRangeC (fun i σ H'=>∃(R:MRows) (v6:Option V),σ=[some (.ref a),some (.ref l1),some (.int n),some (.int c),some (.ref ph),some (.ref sh),v6]/\Sh C H' sh fa mo R F/\R.length=n/\tot R<=i/\SW.Row H' ph/\Same H6 H') ⟨_,v6,rfl,S11,List.length_replicate,by rw[tot_rep];exact Nat.le_refl 0,R11,s611⟩ ?_ ?_
   · rintro j σ H12 hj ⟨R,v6,rfl,S12,hl,ht12,R12,s12⟩
     intro N4 hN4;walk_at "W";refine wS S12 ⟨by decide +kernel,by decide +kernel,by decide +kernel⟩ ?_
     walk_at "W";refine wKey R12 fun ky H13 k0 k1 R13 K13=>?_;have S13:=sh_but S12 R12 K13 nFp;walk_at "W";refine wWorth R13 fun wo H14 w0 w1 R14 K14=>?_;have S14:=sh_but S13 R13 K14 nFp;walk_at "W";have hj:j < r11.toNat:=hj;refine wSPut S14 (by omega) fun H15 S15 f15=>?_
     have tt:=sPut_tot (f:=fa) (m:=mo) (k:=ky) (v:=wo) (R:=R) (by omega)
     walk_at "W";subst hN4;refine⟨_,_,rfl,S15,by rw[sPut_len];exact hl,by rw[tt];split <;> omega,?_,fun b o e=>f15 _ _ (nF6 b o e) (K14 _ _ (sh0 b o e) (K13 _ _ (sh0 b o e) (s12 _ _ e)))⟩
     obtain⟨x1,x2,x3,e,z⟩:=R14;exact⟨x1,x2,x3,f15 _ _ nFp e,z⟩
   rintro σ H12 ⟨R,v6,rfl,S12,hl,ht12,R12,s12⟩
   dsimp only
   walk_at "W";refine⟨ph,sh,n,fa,mo,R,F,rfl,R12,S12,nFp,hl,hn,fun H13 R13 K13=>?_⟩;walk_at "W";rw[if_neg (show ¬ ((!true)=true) by decide)]
   walk_at "W";subst hN3;exact⟨_,_,_,_,_,rfl,fun b o e=>K13 _ _ (sh0 b o (s6 _ _ e)) (s12 _ _ (s6 _ _ e))⟩
 rintro σ H6 ⟨v2,v3,v4,v5,v6,rfl,s6⟩
 dsimp only
 walk_at "W";exact k _
theorem all_mk{l:W.OpenLaw}{w:World}{K:W.Frag}{h:Heap}{mg:Str->Option Value}{fa:Addr}(X:K.In h)(G:h.Ns mainGlobals mg)(hfa:mg "law"=some (.ref fa))
 {C_Shelf:Addr}
 {C_SlowError:Addr}
 {C_NoPlace:Addr}
 {C_NoSize:Addr}
 {C_NoRow:Addr}
 {C_NoState:Addr}
 {f0:Addr}{g0:FuncData}
 {f1:Addr}{g1:FuncData}
 {f2:Addr}{g2:FuncData}
 {f3:Addr}{g3:FuncData}
 {f4:Addr}{g4:FuncData}
 {f5:Addr}{g5:FuncData}
 {f6:Addr}{g6:FuncData}
 {f7:Addr}{g7:FuncData}
 {f8:Addr}{g8:FuncData}
 {f9:Addr}{g9:FuncData}
 {f10:Addr}{g10:FuncData}
 {f11:Addr}{g11:FuncData}
 {f12:Addr}{g12:FuncData}
 {f13:Addr}{g13:FuncData}
 {f14:Addr}{g14:FuncData}
 {f15:Addr}{g15:FuncData}
 {f16:Addr}{g16:FuncData}
 {f17:Addr}{g17:FuncData}
 {f18:Addr}{g18:FuncData}
 {f19:Addr}{g19:FuncData}
 {f20:Addr}{g20:FuncData}
 {f21:Addr}{g21:FuncData}
 {f22:Addr}{g22:FuncData}
 {tk0:Tok}
 {tA_SIZES:Addr}{tD_SIZES:Option Addr}{tN_SIZES:Nat}{tS_SIZES:Array (Option Value)}{tT_SIZES_0 tT_SIZES_1 tT_SIZES_2 tT_SIZES_3 tT_SIZES_4 tT_SIZES_5 tT_SIZES_6 tT_SIZES_7 tT_SIZES_8 tT_SIZES_9 tT_SIZES_10:Tok}
 (q_Shelf:W.nsIn K mainGlobals "Shelf"=some (some (.ref C_Shelf)))
 (pg_Shelf:W.plainGet K C_Shelf Str.empty=true)
 (hd_Shelf:W.hasDictIn K C_Shelf=true)
 (po_Shelf:W.plainOver K C_Shelf=true)
 (sa_Shelf:W.findIn K (.ref C_Shelf) "__setattr__"=some (some (.builtin "object.__setattr__")))
 (mk_Shelf:W.makesIn K C_Shelf=true)
 (kc_Shelf:W.keepIn K (.ref C_Shelf)=true)
 (na_Shelf_mixer:W.findIn K (.ref C_Shelf) "mixer"=some none)
 (na_Shelf_rows:W.findIn K (.ref C_Shelf) "rows"=some none)
 (na_Shelf_held:W.findIn K (.ref C_Shelf) "held"=some none)
 (q_SlowError:W.nsIn K mainGlobals "SlowError"=some (some (.ref C_SlowError)))
 (q_NoPlace:W.nsIn K mainGlobals "NoPlace"=some (some (.ref C_NoPlace)))
 (q_NoSize:W.nsIn K mainGlobals "NoSize"=some (some (.ref C_NoSize)))
 (q_NoRow:W.nsIn K mainGlobals "NoRow"=some (some (.ref C_NoRow)))
 (q_NoState:W.nsIn K mainGlobals "NoState"=some (some (.ref C_NoState)))
 (xo_NoPlace:W.excIn K C_NoPlace [.type "ValueError",.type "Exception",.type "BaseException",.type "object"] "ValueError.__new__"=true)
 (xa_NoPlace:W.findIn K (.ref C_NoPlace) "__getattribute__"=some (some (.builtin "BaseException.__getattribute__")))
 (xb_NoPlace:W.findIn K (.ref C_NoPlace) "__getattr__"=some none)
 (xc_NoPlace:W.findIn K (.ref C_NoPlace) "__class__"=some (some (.builtin "object.__class__")))
 (xd_NoPlace:W.specialIn K (.builtin "object.__class__") "__get__"=some (some (.builtin "getset_descriptor.__get__")))
 (xe_NoPlace:W.takesIn K (.builtin "object.__class__")=some true)
 (xf_NoPlace:W.mroIn K C_NoPlace (.type "object")=some true)
 (xg_NoPlace:W.mroIn K C_NoPlace (.type "BaseException")=some true)
 (xh_NoPlace:(W.clsIn K C_NoPlace).isSome=true)
 (xs_NoPlace:W.exmOne K (.ref C_NoPlace) (.ref C_SlowError)=some true)
 (xv_NoPlace:W.kitOne K (.ref C_NoPlace) (.type "ValueError")=some true)
 (xk_NoPlace_NoSize:W.kitOne K (.ref C_NoPlace) (.ref C_NoSize)=some false)
 (xk_NoPlace_NoRow:W.kitOne K (.ref C_NoPlace) (.ref C_NoRow)=some false)
 (xk_NoPlace_NoState:W.kitOne K (.ref C_NoPlace) (.ref C_NoState)=some false)
 (xo_NoSize:W.excIn K C_NoSize [.type "ValueError",.type "Exception",.type "BaseException",.type "object"] "ValueError.__new__"=true)
 (xa_NoSize:W.findIn K (.ref C_NoSize) "__getattribute__"=some (some (.builtin "BaseException.__getattribute__")))
 (xb_NoSize:W.findIn K (.ref C_NoSize) "__getattr__"=some none)
 (xc_NoSize:W.findIn K (.ref C_NoSize) "__class__"=some (some (.builtin "object.__class__")))
 (xd_NoSize:W.specialIn K (.builtin "object.__class__") "__get__"=some (some (.builtin "getset_descriptor.__get__")))
 (xe_NoSize:W.takesIn K (.builtin "object.__class__")=some true)
 (xf_NoSize:W.mroIn K C_NoSize (.type "object")=some true)
 (xg_NoSize:W.mroIn K C_NoSize (.type "BaseException")=some true)
 (xh_NoSize:(W.clsIn K C_NoSize).isSome=true)
 (xs_NoSize:W.exmOne K (.ref C_NoSize) (.ref C_SlowError)=some true)
 (xv_NoSize:W.kitOne K (.ref C_NoSize) (.type "ValueError")=some true)
 (xk_NoSize_NoPlace:W.kitOne K (.ref C_NoSize) (.ref C_NoPlace)=some false)
 (xk_NoSize_NoRow:W.kitOne K (.ref C_NoSize) (.ref C_NoRow)=some false)
 (xk_NoSize_NoState:W.kitOne K (.ref C_NoSize) (.ref C_NoState)=some false)
 (a0:W.nsIn K mainGlobals "is_whole"=some (some (.ref f0)))
 (u0:Fun K "is_whole" "is_whole" z12_ f0 g0)
 (a1:W.nsIn K mainGlobals "is_size"=some (some (.ref f1)))
 (u1:Fun K "is_size" "is_size" z11_ f1 g1)
 (a2:W.nsIn K mainGlobals "mark_of"=some (some (.ref f2)))
 (u2:Fun K "mark_of" "mark_of" z24_ f2 g2)
 (a3:W.nsIn K mainGlobals "place_of"=some (some (.ref f3)))
 (u3:Fun K "place_of" "place_of" z25_ f3 g3)
 (a4:W.findIn K (.ref C_Shelf) "__init__"=some (some (.ref f4)))
 (i4:W.isFn K (.ref f4)=true)
 (u4:Fun K "__init__" "Shelf.__init__" z0_ f4 g4)
 (a5:W.findIn K (.ref C_Shelf) "place_with"=some (some (.ref f5)))
 (i5:W.isFn K (.ref f5)=true)
 (u5:Fun K "place_with" "Shelf.place_with" z6_ f5 g5)
 (a6:W.findIn K (.ref C_Shelf) "row_with"=some (some (.ref f6)))
 (i6:W.isFn K (.ref f6)=true)
 (u6:Fun K "row_with" "Shelf.row_with" z9_ f6 g6)
 (a7:W.findIn K (.ref C_Shelf) "put"=some (some (.ref f7)))
 (i7:W.isFn K (.ref f7)=true)
 (u7:Fun K "put" "Shelf.put" z7_ f7 g7)
 (a8:W.findIn K (.ref C_Shelf) "size"=some (some (.ref f8)))
 (i8:W.isFn K (.ref f8)=true)
 (u8:Fun K "size" "Shelf.size" z10_ f8 g8)
 (a9:W.findIn K (.ref C_Shelf) "many"=some (some (.ref f9)))
 (i9:W.isFn K (.ref f9)=true)
 (u9:Fun K "many" "Shelf.many" z5_ f9 g9)
 (a10:W.findIn K (.ref C_Shelf) "check_place"=some (some (.ref f10)))
 (i10:W.isFn K (.ref f10)=true)
 (u10:Fun K "check_place" "Shelf.check_place" z1_ f10 g10)
 (a11:W.findIn K (.ref C_Shelf) "row"=some (some (.ref f11)))
 (i11:W.isFn K (.ref f11)=true)
 (u11:Fun K "row" "Shelf.row" z8_ f11 g11)
 (a12:W.findIn K (.ref C_Shelf) "empty"=some (some (.ref f12)))
 (i12:W.isFn K (.ref f12)=true)
 (u12:Fun K "empty" "Shelf.empty" z3_ f12 g12)
 (a13:W.nsIn K mainGlobals "_law_stream"=some (some (.ref f13)))
 (u13:Fun K "_law_stream" "_law_stream" z21_ f13 g13)
 (a14:W.nsIn K mainGlobals "_law_take"=some (some (.ref f14)))
 (u14:Fun K "_law_take" "_law_take" z22_ f14 g14)
 (a15:W.nsIn K mainGlobals "_law_mixer"=some (some (.ref f15)))
 (u15:Fun K "_law_mixer" "_law_mixer" z18_ f15 g15)
 (a16:W.nsIn K mainGlobals "_law_key"=some (some (.ref f16)))
 (u16:Fun K "_law_key" "_law_key" z15_ f16 g16)
 (a17:W.nsIn K mainGlobals "_law_worth"=some (some (.ref f17)))
 (u17:Fun K "_law_worth" "_law_worth" z23_ f17 g17)
 (a18:W.nsIn K mainGlobals "_law_kind"=some (some (.ref f18)))
 (u18:Fun K "_law_kind" "_law_kind" z16_ f18 g18)
 (a19:W.nsIn K mainGlobals "_law_asked"=some (some (.ref f19)))
 (u19:Fun K "_law_asked" "_law_asked" z14_ f19 g19)
 (a20:W.nsIn K mainGlobals "_law_looks"=some (some (.ref f20)))
 (u20:Fun K "_law_looks" "_law_looks" z17_ f20 g20)
 (a21:W.nsIn K mainGlobals "_law_right"=some (some (.ref f21)))
 (u21:Fun K "_law_right" "_law_right" z20_ f21 g21)
 (a22:W.nsIn K mainGlobals "law"=some (some (.ref f22)))
 (u22:Fun K "law" "law" z13_ f22 g22)
 (cst0:W.nsIn K mainGlobals "MARKS"=some (some (.int 65536 tk0)))
 (ta_SIZES:W.nsIn K mainGlobals "SIZES"=some (some (.ref tA_SIZES)))
 (tl_SIZES:K.lookup tA_SIZES=some ⟨.type "tuple",tD_SIZES,.seq #[.int 4 tT_SIZES_0,.int 8 tT_SIZES_1,.int 16 tT_SIZES_2,.int 32 tT_SIZES_3,.int 64 tT_SIZES_4,.int 128 tT_SIZES_5,.int 256 tT_SIZES_6,.int 512 tT_SIZES_7,.int 1024 tT_SIZES_8,.int 2048 tT_SIZES_9,.int 4096 tT_SIZES_10] tN_SIZES,tS_SIZES⟩)
 (blt0:W.nsIn K mainGlobals "int"=some none)
 (blt1:W.nsIn K mainGlobals "bool"=some none)
 (blt2:W.nsIn K mainGlobals "isinstance"=some none)
 (blt3:W.nsIn K mainGlobals "range"=some none)
 (blt4:W.nsIn K mainGlobals "len"=some none)
 (blt5:W.nsIn K mainGlobals "list"=some none)
 (blt6:W.nsIn K mainGlobals "str"=some none)
 (blt7:W.nsIn K mainGlobals "ValueError"=some none) :
 ∃ fd:FuncData,(∀(s:Shared) (v:Value),BindsTo s fd ⟨[v],[]⟩ [("script",v)]) /\ ∀ base:Heap,K.In base->base.Ns mainGlobals mg->FnOk l.prog w K mg base CX0 7 fa fd ["script"] (spLaw K):=by
 have e:=hfa.symm.trans (W.mg_of X G a22);cases e;have g:Gs K mg C_Shelf C_SlowError C_NoPlace C_NoSize C_NoRow C_NoState:=⟨⟨_,W.mg_of X G cst0⟩,⟨_,W.mg_of X G ta_SIZES,fun H=>.inr ⟨_,_,_,tl_SIZES,rfl,rfl,by show(11:Nat)<=sizeLine;decide,.cons ⟨_,rfl⟩ (.cons ⟨_,rfl⟩ (.cons ⟨_,rfl⟩ (.cons ⟨_,rfl⟩ (.cons ⟨_,rfl⟩ (.cons ⟨_,rfl⟩ (.cons ⟨_,rfl⟩ (.cons ⟨_,rfl⟩ (.cons ⟨_,rfl⟩ (.cons ⟨_,rfl⟩ (.cons ⟨_,rfl⟩ (.nil)))))))))))⟩⟩,⟨pg_Shelf,hd_Shelf,po_Shelf,sa_Shelf⟩,na_Shelf_mixer,na_Shelf_rows,na_Shelf_held,W.mg_none_of X G blt0,W.mg_none_of X G blt1,W.mg_none_of X G blt2,W.mg_none_of X G blt3,W.mg_none_of X G blt4,W.mg_none_of X G blt5,W.mg_none_of X G blt6,W.mg_none_of X G blt7,W.mg_of X G q_SlowError,W.mg_of X G q_NoPlace,W.mg_of X G q_NoSize,W.mg_of X G q_NoRow,W.mg_of X G q_NoState,⟨W.mg_of X G q_NoPlace,xo_NoPlace⟩,⟨⟨xa_NoPlace,xb_NoPlace,xc_NoPlace,xd_NoPlace,xe_NoPlace,xf_NoPlace,xg_NoPlace⟩,xh_NoPlace⟩,xs_NoPlace,xv_NoPlace,xk_NoPlace_NoSize,xk_NoPlace_NoRow,xk_NoPlace_NoState,⟨W.mg_of X G q_NoSize,xo_NoSize⟩,⟨⟨xa_NoSize,xb_NoSize,xc_NoSize,xd_NoSize,xe_NoSize,xf_NoSize,xg_NoSize⟩,xh_NoSize⟩,xs_NoSize,xv_NoSize,xk_NoSize_NoPlace,xk_NoSize_NoRow,xk_NoSize_NoState⟩
 have FL:=u22;obtain⟨oc,od,kV,dc,pm,an,cd,ct,sl,rfl,_,_⟩:=id FL.ex;refine⟨W.fnOf "law" "law" (defArgs z13_) (defBody z13_) (defScope z13_) .none kV dc pm an cd ct,fun s v=>.of_eq rfl,fun base _ _=>?_⟩;have T0:=q24_ (P:=l.prog) (w:=w) (base:=base) ⟨_,_,u0,W.mg_of X G a0,SW.bd1 u0⟩ g;have T1:=q20_ (P:=l.prog) (w:=w) (base:=base) ⟨_,_,u1,W.mg_of X G a1,SW.bd1 u1⟩ g T0;have T2:=q14_ (P:=l.prog) (w:=w) (base:=base) ⟨_,_,u2,W.mg_of X G a2,SW.bd2 u2⟩ g;have T3:=q17_ (P:=l.prog) (w:=w) (base:=base) ⟨_,_,u3,W.mg_of X G a3,SW.bd2 u3⟩;have T4:=q38_ (P:=l.prog) (w:=w) (base:=base) ⟨_,_,u4,⟨mk_Shelf,a4,i4,kc_Shelf⟩,W.mg_of X G q_Shelf,SW.bd3 u4⟩ g T1;have T5:=q41_ (P:=l.prog) (w:=w) (base:=base) ⟨_,_,u5,⟨a5,i5,u5.kp⟩,SW.bd2 u5⟩ g T2 T3;have T6:=q45_ (P:=l.prog) (w:=w) (base:=base) ⟨_,_,u6,⟨a6,i6,u6.kp⟩,SW.bd2 u6⟩ g T5;have T7:=q42_ (P:=l.prog) (w:=w) (base:=base) ⟨_,_,u7,⟨a7,i7,u7.kp⟩,SW.bd3 u7⟩ g T6;have T8:=q46_ (P:=l.prog) (w:=w) (base:=base) ⟨_,_,u8,⟨a8,i8,u8.kp⟩,SW.bd1 u8⟩ g;have T9:=q40_ (P:=l.prog) (w:=w) (base:=base) ⟨_,_,u9,⟨a9,i9,u9.kp⟩,SW.bd1 u9⟩ g;have T10:=q35_ (P:=l.prog) (w:=w) (base:=base) ⟨_,_,u10,⟨a10,i10,u10.kp⟩,SW.bd2 u10⟩ g T0;have T11:=q43_ (P:=l.prog) (w:=w) (base:=base) ⟨_,_,u11,⟨a11,i11,u11.kp⟩,SW.bd2 u11⟩ g T10;have T12:=q25_ (P:=l.prog) (w:=w) (base:=base) ⟨_,_,u0,W.mg_of X G a0,SW.bd1 u0⟩ g;have T13:=q21_ (P:=l.prog) (w:=w) (base:=base) ⟨_,_,u1,W.mg_of X G a1,SW.bd1 u1⟩ g T12;have T14:=q36_ (P:=l.prog) (w:=w) (base:=base) ⟨_,_,u10,⟨a10,i10,u10.kp⟩,SW.bd2 u10⟩ g T12;have T15:=q44_ (P:=l.prog) (w:=w) (base:=base) ⟨_,_,u11,⟨a11,i11,u11.kp⟩,SW.bd2 u11⟩ g T14;have T16:=q37_ (P:=l.prog) (w:=w) (base:=base) ⟨_,_,u12,⟨a12,i12,u12.kp⟩,SW.bd2 u12⟩ g T15;have T17:=q39_ (P:=l.prog) (w:=w) (base:=base) ⟨_,_,u4,⟨mk_Shelf,a4,i4,kc_Shelf⟩,W.mg_of X G q_Shelf,SW.bd3 u4⟩ g T13;have T18:=q22_ (P:=l.prog) (w:=w) (base:=base) ⟨_,_,u13,W.mg_of X G a13,SW.bd1 u13⟩ g;have T19:=q23_ (P:=l.prog) (w:=w) (base:=base) ⟨_,_,u14,W.mg_of X G a14,SW.bd2 u14⟩;have T20:=q16_ (P:=l.prog) (w:=w) (base:=base) ⟨_,_,u15,W.mg_of X G a15,SW.bd1 u15⟩ T19;have T21:=q3_ (P:=l.prog) (w:=w) (base:=base) ⟨_,_,u16,W.mg_of X G a16,SW.bd1 u16⟩ T19;have T22:=q26_ (P:=l.prog) (w:=w) (base:=base) ⟨_,_,u17,W.mg_of X G a17,SW.bd1 u17⟩ T19;have T23:=q4_ (P:=l.prog) (w:=w) (base:=base) ⟨_,_,u18,W.mg_of X G a18,SW.bd1 u18⟩ g;have T24:=q0_ (P:=l.prog) (w:=w) (base:=base) ⟨_,_,u19,W.mg_of X G a19,SW.bd3 u19⟩ g T15 T16 T17 T23;have T25:=q13_ (P:=l.prog) (w:=w) (base:=base) ⟨_,_,u20,W.mg_of X G a20,SW.bd2 u20⟩ g T11 T8 T9;have T26:=q19_ (P:=l.prog) (w:=w) (base:=base) ⟨_,_,u21,W.mg_of X G a21,SW.bd3 u21⟩ g T19 T24 T25;exact ok_law FL g T4 T7 T8 T11 T18 T19 T20 T21 T22 T26
theorem walk{l:W.OpenLaw}{q:Program}{loose:List Str}{XP:(Str->Option Value)->Heap->Prop}{YP:World->Heap->Prop}{d:DefRec}{K:Params->W.Frag}(hn:l.most=some 63)(hdf:d.params.defaults=[])
 (hY:∀(w:World) (h:Heap),YP w h->(K w.params).In h)
 (F:∀(w:World) (mg:Str->Option Value) (fa:Addr) (h:Heap),(K w.params).In h->h.Ns mainGlobals mg->mg d.name=some (.ref fa) ->
  ∃ fd:FuncData,(∀(s:Shared) (u:Value),BindsTo s fd ⟨[u],[]⟩ [("script",u)]) /\ ∀ base:Heap,(K w.params).In base->base.Ns mainGlobals mg->FnOk l.prog w (K w.params) mg base CX0 7 fa fd ["script"] (spLaw (K w.params))) :
 W.WalkO q loose XP YP l.row.toRowW d [] (fun f vs=>PySem.call f vs):=
 L2.walk_of (n:=63) (k:=7) (x:="script") (CX:=fun _=>CX0) (sp:=fun w=>spLaw (K w.params)) hn (by decide) hdf ⟨rfl,by decide,by decide⟩ hY F (fun _ _ a ns hl _ hS=>⟨a,ns,rfl,hS,hl,fun _=>rfl⟩) fun _ _ _ _ _ z=>z
end
end
end K
open PySem PySem.W PyProof.Rows L2
local macro_rules | `(tactic| walk_at "F")=>`(tactic| (refine' L2.fun_mk ?l ?c ?k;(case l=>k_is);(case c=>k_is);(case k=>k_is)))
set_option maxRecDepth 100000 in
set_option maxHeartbeats 0 in
theorem PySem.Challenge.cw_slowshift_k07_no_places_and_no_sizes_holds : PySem.Challenge.rw_slowshift_k07_no_places_and_no_sizes.Holds := by
 w_on;o_law;z_head;(case hw=>w_witness2)
 k_fill
 refine SW.walkX (fun _=>by kernel_rfl) (K.walk (l:=PySem.Challenge.rw_slowshift_k07_no_places_and_no_sizes) rfl rfl (fun w h Y=>Y) ?F)
 case F=>
  intro w mg fa h KX G hmg
  refine' K.all_mk KX G hmg ?q_Shelf ?pg_Shelf ?hd_Shelf ?po_Shelf ?sa_Shelf ?mk_Shelf ?kc_Shelf ?na_Shelf_mixer ?na_Shelf_rows ?na_Shelf_held ?q_SlowError ?q_NoPlace ?q_NoSize ?q_NoRow ?q_NoState ?xo_NoPlace ?xa_NoPlace ?xb_NoPlace ?xc_NoPlace ?xd_NoPlace ?xe_NoPlace ?xf_NoPlace ?xg_NoPlace ?xh_NoPlace ?xs_NoPlace ?xv_NoPlace ?xk_NoPlace_NoSize ?xk_NoPlace_NoRow ?xk_NoPlace_NoState ?xo_NoSize ?xa_NoSize ?xb_NoSize ?xc_NoSize ?xd_NoSize ?xe_NoSize ?xf_NoSize ?xg_NoSize ?xh_NoSize ?xs_NoSize ?xv_NoSize ?xk_NoSize_NoPlace ?xk_NoSize_NoRow ?xk_NoSize_NoState ?a0 ?u0 ?a1 ?u1 ?a2 ?u2 ?a3 ?u3 ?a4 ?i4 ?u4 ?a5 ?i5 ?u5 ?a6 ?i6 ?u6 ?a7 ?i7 ?u7 ?a8 ?i8 ?u8 ?a9 ?i9 ?u9 ?a10 ?i10 ?u10 ?a11 ?i11 ?u11 ?a12 ?i12 ?u12 ?a13 ?u13 ?a14 ?u14 ?a15 ?u15 ?a16 ?u16 ?a17 ?u17 ?a18 ?u18 ?a19 ?u19 ?a20 ?u20 ?a21 ?u21 ?a22 ?u22 ?cst0 ?ta_SIZES ?tl_SIZES ?blt0 ?blt1 ?blt2 ?blt3 ?blt4 ?blt5 ?blt6 ?blt7
  (case q_Shelf=>k_is)
  (case pg_Shelf=>k_is)
  (case hd_Shelf=>k_is)
  (case po_Shelf=>k_is)
  (case sa_Shelf=>k_is)
  (case mk_Shelf=>k_is)
  (case kc_Shelf=>k_is)
  (case na_Shelf_mixer=>k_is)
  (case na_Shelf_rows=>k_is)
  (case na_Shelf_held=>k_is)
  (case q_SlowError=>k_is)
  (case q_NoPlace=>k_is)
  (case q_NoSize=>k_is)
  (case q_NoRow=>k_is)
  (case q_NoState=>k_is)
  (case xo_NoPlace=>kernel_rfl)
  (case xa_NoPlace=>k_is)
  (case xb_NoPlace=>k_is)
  (case xc_NoPlace=>k_is)
  (case xd_NoPlace=>k_is)
  (case xe_NoPlace=>k_is)
  (case xf_NoPlace=>k_is)
  (case xg_NoPlace=>k_is)
  (case xh_NoPlace=>kernel_rfl)
  (case xs_NoPlace=>kernel_rfl)
  (case xv_NoPlace=>kernel_rfl)
  (case xk_NoPlace_NoSize=>kernel_rfl)
  (case xk_NoPlace_NoRow=>kernel_rfl)
  (case xk_NoPlace_NoState=>kernel_rfl)
  (case xo_NoSize=>kernel_rfl)
  (case xa_NoSize=>k_is)
  (case xb_NoSize=>k_is)
  (case xc_NoSize=>k_is)
  (case xd_NoSize=>k_is)
  (case xe_NoSize=>k_is)
  (case xf_NoSize=>k_is)
  (case xg_NoSize=>k_is)
  (case xh_NoSize=>kernel_rfl)
  (case xs_NoSize=>kernel_rfl)
  (case xv_NoSize=>kernel_rfl)
  (case xk_NoSize_NoPlace=>kernel_rfl)
  (case xk_NoSize_NoRow=>kernel_rfl)
  (case xk_NoSize_NoState=>kernel_rfl)
  (case a0=>k_is)
  (case u0=>walk_at "F")
  (case a1=>k_is)
  (case u1=>walk_at "F")
  (case a2=>k_is)
  (case u2=>walk_at "F")
  (case a3=>k_is)
  (case u3=>walk_at "F")
  (case a4=>k_is)
  (case i4=>k_is)
  (case u4=>walk_at "F")
  (case a5=>k_is)
  (case i5=>k_is)
  (case u5=>walk_at "F")
  (case a6=>k_is)
  (case i6=>k_is)
  (case u6=>walk_at "F")
  (case a7=>k_is)
  (case i7=>k_is)
  (case u7=>walk_at "F")
  (case a8=>k_is)
  (case i8=>k_is)
  (case u8=>walk_at "F")
  (case a9=>k_is)
  (case i9=>k_is)
  (case u9=>walk_at "F")
  (case a10=>k_is)
  (case i10=>k_is)
  (case u10=>walk_at "F")
  (case a11=>k_is)
  (case i11=>k_is)
  (case u11=>walk_at "F")
  (case a12=>k_is)
  (case i12=>k_is)
  (case u12=>walk_at "F")
  (case a13=>k_is)
  (case u13=>walk_at "F")
  (case a14=>k_is)
  (case u14=>walk_at "F")
  (case a15=>k_is)
  (case u15=>walk_at "F")
  (case a16=>k_is)
  (case u16=>walk_at "F")
  (case a17=>k_is)
  (case u17=>walk_at "F")
  (case a18=>k_is)
  (case u18=>walk_at "F")
  (case a19=>k_is)
  (case u19=>walk_at "F")
  (case a20=>k_is)
  (case u20=>walk_at "F")
  (case a21=>k_is)
  (case u21=>walk_at "F")
  (case a22=>k_is)
  (case u22=>walk_at "F")
  (case cst0=>k_is)
  (case ta_SIZES=>k_is)
  (case tl_SIZES=>k_is)
  (case blt0=>k_is)
  (case blt1=>k_is)
  (case blt2=>k_is)
  (case blt3=>k_is)
  (case blt4=>k_is)
  (case blt5=>k_is)
  (case blt6=>k_is)
  (case blt7=>k_is)

