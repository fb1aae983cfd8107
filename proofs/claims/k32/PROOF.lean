import PyProof.Rows.All
import Wide.All
import OpenK.AllK
import Wide.FinOn
import Lean
import PyProof.EqAt
import PyProof.EqKinds
import PyProof.TupleCall
import PySem.Challenge.RW_slowshift_k32_where_walks_go_wrong
set_option Elab.async false
set_option linter.all false
set_option maxRecDepth 100000
set_option genSizeOf false
set_option genSizeOfSpec false
set_option genInjectivity false
set_option maxHeartbeats 4000000
namespace L2
open PySem PySem.Spec PyProof.Rows
noncomputable abbrev Key:=Sum Int Str
noncomputable def keyIs:Key->Value->Bool
 | .inl k,v=>Value.isInt k v
 | .inr x,v=>Value.isStrOf x v
noncomputable def keyH(w:World):Key->Int
 | .inl k=>hashInt k
 | .inr x=>hashStr w x
theorem keyIs_shape:∀{k:Key}{v:Value},keyIs k v=true->(∃ i t,k=Sum.inl i/\v=Value.int i t)∨(∃ x t,k=Sum.inr x/\v=Value.str x t)
 | .inl i,v,h=>by
   obtain⟨t,e⟩:=Value.isInt_shape (k:=i) (v:=v) h;exact .inl ⟨i,t,rfl,e⟩
 | .inr x,v,h=>by
   obtain⟨t,e⟩:=Value.isStrOf_shape (x:=x) (v:=v) h;exact .inr ⟨x,t,rfl,e⟩
theorem keyIs_int(i:Int)(t:Tok):keyIs (.inl i) (.int i t)=true:=by simp[keyIs,Value.isInt]
theorem keyIs_str(x:Str)(t:Tok):keyIs (.inr x) (.str x t)=true:=by simp[keyIs,Value.isStrOf]
theorem key_ll(a b:Int):decide ((Sum.inl a:Key)=Sum.inl b)=(a == b):=by
 by_cases e:a=b
 · subst e;simp
 have h:¬ (Sum.inl a:Key)=Sum.inl b:=fun q=>e (Sum.inl.inj q);rw[decide_eq_false h];exact(beq_eq_false_iff_ne.mpr e).symm
theorem key_rr(a b:Str):decide ((Sum.inr a:Key)=Sum.inr b)=decide (a=b):=by
 by_cases e:a=b
 · subst e;simp
 have h:¬ (Sum.inr a:Key)=Sum.inr b:=fun q=>e (Sum.inr.inj q);rw[decide_eq_false h,decide_eq_false e]
theorem key_lr(a:Int)(b:Str):decide ((Sum.inl a:Key)=Sum.inr b)=false:=decide_eq_false (fun q=>nomatch q)
theorem key_rl(a:Str)(b:Int):decide ((Sum.inr a:Key)=Sum.inl b)=false:=decide_eq_false (fun q=>nomatch q)
noncomputable def mixKind(prog:Program)(w:World):PySem.KeyKind prog w Key where
 is:=keyIs
 hash:=keyH w
 inj:=fun v a b ha hb=>by
  rcases keyIs_shape ha with ⟨i,t,rfl,rfl⟩ | ⟨x,t,rfl,rfl⟩
  · rcases keyIs_shape hb with ⟨j,u,rfl,e⟩ | ⟨y,u,rfl,e⟩
    · injection e with e1 _;rw[e1]
    exact nomatch e
  rcases keyIs_shape hb with ⟨j,u,rfl,e⟩ | ⟨y,u,rfl,e⟩
  · exact nomatch e
  injection e with e1 _;rw[e1]
 byValue:=fun k v h=>by
  rcases keyIs_shape h with ⟨i,t,rfl,rfl⟩ | ⟨x,t,rfl,rfl⟩ <;> rfl
 pyHash:=fun hv h=>by
  rcases keyIs_shape hv with ⟨i,t,rfl,rfl⟩ | ⟨x,t,rfl,rfl⟩
  · exact wpAny_pyHash_int h
  exact wpAny_pyHash_str h
 eqBool:=fun hu hv h=>by
  rcases keyIs_shape hu with ⟨i,t,rfl,rfl⟩ | ⟨x,t,rfl,rfl⟩
  · rcases keyIs_shape hv with ⟨j,u,rfl,rfl⟩ | ⟨y,u,rfl,rfl⟩
    · rw[key_ll]at h;exact wpAny_eqBool_int h
    rw[key_lr]at h;exact SeqAt.EqAt.int_str i t y u _ _ _ _ h
  rcases keyIs_shape hv with ⟨j,u,rfl,rfl⟩ | ⟨y,u,rfl,rfl⟩
  · rw[key_rl]at h;exact SeqAt.EqAt.str_int x t j u _ _ _ _ h
  rw[key_rr]at h;exact wpAny_eqBool_str h
 «strs»:=fun k x t v h=>by
  rcases keyIs_shape h with ⟨i,u,rfl,e⟩ | ⟨y,u,rfl,e⟩
  · exact nomatch e
  injection e with e1 _;subst e1;cases v <;> rfl
theorem mixKind_int(prog:Program)(w:World)(i:Int)(t:Tok):(mixKind prog w).is (.inl i) (.int i t)=true:=keyIs_int i t
theorem mixKind_str(prog:Program)(w:World)(x:Str)(t:Tok):(mixKind prog w).is (.inr x) (.str x t)=true:=keyIs_str x t
end L2
namespace L2
open PySem PySem.Spec PyProof.Rows
set_option genInjectivity true in
inductive V where
 | non | bl (b:Bool) | int (i:Int) | str (x:Str) | byt (b:Array UInt8) | flt (b:UInt64) | ref (a:Addr) | ty (n:String)
 deriving DecidableEq
noncomputable def RelV:V->Value->Prop
 | .non,u=>u=Value.none
 | .bl b,u=>u=Value.bool b
 | .int i,u=>∃ t,u=Value.int i t
 | .str x,u=>∃ t,u=Value.str x t
 | .byt b,u=>∃ t,u=Value.bytes b t
 | .flt b,u=>∃ t,u=Value.float b t
 | .ref a,u=>u=Value.ref a
 | .ty n,u=>u=Value.type n
noncomputable abbrev Vals:List V->List Value->Prop:=Paired RelV
theorem Vals.length{xs:List V}{us:List Value}(r:Vals xs us):xs.length=us.length:=Paired.length r
theorem Vals.get:∀{xs:List V}{us:List Value}{i:Nat}{x:V},Vals xs us->xs[i]?=some x -> ∃ u,us[i]?=some u/\RelV x u
 | _,_,_,_,.nil,e=>by simp at e
 | _,_,0,_,.cons r _,e=>by simp at e;subst e;exact⟨_,rfl,r⟩
 | _,_,i+1,x,.cons _ t,e=>by
   obtain⟨u,h1,h2⟩:=Vals.get (i:=i) (x:=x) t (by simpa using e)
   exact⟨u,by simpa using h1,h2⟩
theorem Vals.set{x:V}{u:Value}(r:RelV x u):∀{xs:List V}{us:List Value} (i:Nat),Vals xs us->Vals (xs.set i x) (us.set i u)
 | _,_,_,.nil=>.nil
 | _,_,0,.cons _ t=>.cons r t
 | _,_,i+1,.cons q t=>.cons q (Vals.set r i t)
theorem Vals.append:∀{xs ys:List V}{us ws:List Value},Vals xs us->Vals ys ws->Vals (xs++ys) (us++ws)
 | _,_,_,_,.nil,s=>s
 | _,_,_,_,.cons r t,s=>.cons r (Vals.append t s)
theorem Vals.take:∀{xs:List V}{us:List Value} (n:Nat),Vals xs us->Vals (xs.take n) (us.take n)
 | _,_,0,_=>.nil
 | _,_,_+1,.nil=>.nil
 | _,_,n+1,.cons r t=>.cons r (Vals.take n t)
theorem Vals.drop:∀{xs:List V}{us:List Value} (n:Nat),Vals xs us->Vals (xs.drop n) (us.drop n)
 | _,_,0,r=>r
 | _,_,_+1,.nil=>.nil
 | _,_,n+1,.cons _ t=>Vals.drop n t
noncomputable def RelO:Option V->Option Value->Prop
 | some v,some u=>RelV v u
 | none,none=>True
 | _,_=>False
noncomputable def KV{κ:Type}:List (κ × V)->List (κ × Value)->Prop:=Paired fun(p:κ × V) (q:κ × Value)=>p.1=q.1/\RelV p.2 q.2
noncomputable def kV:Key->V
 | .inl i=>.int i
 | .inr x=>.str x
inductive HO where
 | lst (xs:List V)
 | tup (xs:List V)
 | dK (kvs:List (Key×V)) | dT (kvs:List (List Key×V))
 | set (S:Int->Bool) (n:Nat)
 | ins (C dx:Addr) (fs:List (Str×V))
 | own (x:Addr)
 | xd (fs:List (Str×V))
 | met (f x:Addr)
 | rng (lo hi:Int)
 | frz (o:Obj) (u:HO)
 | tbl (ps:Array Value)
 | ext (φ:Heap->Prop)
noncomputable abbrev Hp:=Addr->Option HO
noncomputable def upd(H:Hp)(a:Addr)(o:HO):Hp:=fun b=>if b=a then some o else H b
theorem upd_same{H:Hp}{a:Addr}{o:HO}:upd H a o a=some o:=by unfold upd;rw[if_pos rfl]
theorem upd_ne{H:Hp}{a b:Addr}{o:HO}(h:b≠a):upd H a o b=H b:=by unfold upd;rw[if_neg h]
theorem ne_of{H:Hp}{a b:Addr}{o u:HO}(h:H a=some o)(h':H b=some u)(d:o≠u):a≠b:=by
 intro e;subst e;rw[h]at h';exact d (Option.some.inj h')
theorem ne_of_none{H:Hp}{a b:Addr}{o:HO}(h:H a=some o)(h':H b=none):a≠b:=by
 intro e;subst e;rw[h]at h';cases h'
section
variable(P:Program)(w:World)
noncomputable def ObjOk(H:Hp)(h:Heap)(a:Addr):HO->Prop
 | .lst xs=>xs.length<=sizeLine /\ ∃(its:List Value) (n:Nat),Vals xs its/\h.get? a=some { cls:=.type "list",data:=.seq its.toArray n }
 | .tup xs=>xs.length<=sizeLine /\ ∃ its:List Value,Vals xs its/\IsTup h a its.toArray
 | .dK kvs=>kvs.length<=sizeLine/\(a == sysModules)=false /\ ∃ vs,KV kvs vs/\h.DictOf (mixKind P w) a vs
 | .dT kvs=>kvs.length<=sizeLine/\(a == sysModules)=false /\ ∃ xs:List (List Key×Addr×Value),
  Paired (fun(p:List Key×V) (q:List Key×Addr×Value)=>p.1=q.1/\H q.2.1=some (.tup (p.1.map kV))/\RelV p.2 q.2.2) kvs xs /\
  ∃ o es ep,h.get? a=some o/\o.ExactDict/\o.data=.dict es ep/\es.toList=xs.map (entryOfKey (tupleKind (mixKind P w)))/\(xs.map (·.1)).Nodup
 | .set S n=>h.SetOf (intKind P w) a S n
 | .ins C dx fs=>H dx=some (.own a)/\fs.length<=1000/\dx≠a/\h.get? a=some (W.instObj C dx) /\
  ∃ mA,h.Ns1 dx mA/\(∀ f,RelO (fs.lookup f) (mA f))/\PySem.Within mA (fs.map (·.1))
 | .own _=>∃ o,h.get? a=some o
 | .xd fs=>∃ mA,h.Ns1 a mA /\ ∀ f,RelO (fs.lookup f) (mA f)
 | .rng lo hi=>∃ t u v,h.get? a=some { cls:=.type "range",data:=.fields #[.int lo t,.int hi u,.int 1 v] }
 | .frz o u=>h.get? a=some o/\ObjOk H h a u
 | .tbl ps=>h.get? a=some { cls:=.none,data:=.fields ps }
 | .met f x=>h.get? a=some (W.methodObj (.ref f) (.ref x))
 | .ext φ=>φ h/\(∃ o,h.get? a=some o) /\ ∀ h1 h2:Heap,φ h1->(∀ o,h1.get? a=some o->h2.get? a=some o) -> φ h2
noncomputable def HOk(H:Hp)(h:Heap):Prop:=∀ a o,H a=some o->ObjOk P w H h a o
end
section
variable{P:Program}{w:World}{H H':Hp}{h h':Heap}{a:Addr}{o:HO}
theorem ObjOk.lt(x:ObjOk P w H h a o):a < h.objs.size:=by
 cases o with
 | lst xs=>obtain⟨_,_,_,_,e⟩:=x;exact Heap.lt_size e
 | tup xs=>obtain⟨_,_,_,p⟩:=x;exact p.lt
 | dK kvs=>obtain⟨_,_,_,_,o,_,_,e,_⟩:=x;exact Heap.lt_size e
 | dT kvs=>obtain⟨_,_,_,_,o,_,_,e,_⟩:=x;exact Heap.lt_size e
 | set S n=>obtain⟨o,_,_,_,e,_⟩:=x;exact Heap.lt_size e
 | ins C dx fs=>obtain⟨_,_,_,e,_⟩:=x;exact Heap.lt_size e
 | own y=>obtain⟨_,e⟩:=x;exact Heap.lt_size e
 | xd fs=>obtain⟨_,⟨_,_,_,e,_⟩,_⟩:=x;exact Heap.lt_size e
 | rng lo hi=>obtain⟨_,_,_,e⟩:=x;exact Heap.lt_size e
 | frz ob u=>obtain⟨e,_⟩:=x;exact Heap.lt_size e
 | tbl ps=>exact Heap.lt_size (show h.get? a=some _ from x)
 | met f y=>exact Heap.lt_size (show h.get? a=some _ from x)
 | ext φ=>obtain⟨_,⟨_,e⟩,_⟩:=x;exact Heap.lt_size e
theorem Paired.mapP{α β:Type}{F G:α -> β -> Prop}:∀{l₁:List α}{l₂:List β},Paired F l₁ l₂ -> (∀ a b,F a b->G a b)->Paired G l₁ l₂
 | _,_,.nil,_=>.nil
 | _,_,.cons r t,f=>.cons (f _ _ r) (Paired.mapP t f)
theorem ObjOk.stay(x:ObjOk P w H h a o)(k:∀ b u,(b=a∨H b=some (.own a))->h.get? b=some u->h'.get? b=some u)
 (ho:∀ b,H b=some (.own a)->H' b=some (.own a)) (ht:∀ b xs,H b=some (.tup xs)->H' b=some (.tup xs)):ObjOk P w H' h' a o:=by
 induction o with
 | lst xs=>obtain⟨z,its,n,r,e⟩:=x;exact⟨z,its,n,r,k _ _ (.inl rfl) e⟩
 | tup xs=>obtain⟨z,its,r,ob,e,c⟩:=x;exact⟨z,its,r,ob,k _ _ (.inl rfl) e,c⟩
 | dK kvs=>obtain⟨z,y,vs,r,ob,es,ep,e,c⟩:=x;exact⟨z,y,vs,r,ob,es,ep,k _ _ (.inl rfl) e,c⟩
 | dT kvs=>
   obtain⟨z,y,xs,r,ob,es,ep,e,c⟩:=x;exact⟨z,y,xs,Paired.mapP r fun p q z=>⟨z.1,ht _ _ z.2.1,z.2.2⟩,ob,es,ep,k _ _ (.inl rfl) e,c⟩
 | set S n=>obtain⟨ob,es,ep,t,e,c⟩:=x;exact⟨ob,es,ep,t,k _ _ (.inl rfl) e,c⟩
 | ins C dx fs=>
   obtain⟨d,z,ne,e,mA,⟨od,es,ep,e2,c⟩,r⟩:=x;exact⟨ho _ d,z,ne,k _ _ (.inl rfl) e,mA,⟨od,es,ep,k _ _ (.inr d) e2,c⟩,r⟩
 | own y=>obtain⟨ob,e⟩:=x;exact⟨ob,k _ _ (.inl rfl) e⟩
 | xd fs=>obtain⟨mA,⟨od,es,ep,e,c⟩,r⟩:=x;exact⟨mA,⟨od,es,ep,k _ _ (.inl rfl) e,c⟩,r⟩
 | rng lo hi=>obtain⟨t,u,v,e⟩:=x;exact⟨t,u,v,k _ _ (.inl rfl) e⟩
 | frz ob u ih=>obtain⟨e,q⟩:=x;exact⟨k _ _ (.inl rfl) e,ih q⟩
 | tbl ps=>
   have e:h.get? a=some { cls:=.none,data:=.fields ps }:=x;show h'.get? a=some { cls:=.none,data:=.fields ps };exact k a _ (.inl rfl) e
 | met f y=>
   have e:h.get? a=some (W.methodObj (.ref f) (.ref y)):=x;show h'.get? a=some (W.methodObj (.ref f) (.ref y));exact k a _ (.inl rfl) e
 | ext φ=>obtain⟨p,⟨o,e⟩,st⟩:=x;exact⟨st _ _ p fun o q=>k _ _ (.inl rfl) q,⟨o,k _ _ (.inl rfl) e⟩,st⟩
theorem HOk.lt(x:HOk P w H h)(e:H a=some o):a < h.objs.size:=(x a o e).lt
theorem HOk.fresh(x:HOk P w H h)(e:h.objs.size<=a):H a=none:=by
 cases q:H a with
 | none=>rfl
 | some u=>exact absurd (Nat.lt_of_lt_of_le (x.lt q) e) (Nat.lt_irrefl _)
theorem HOk.kept(x:HOk P w H h)(k:∀ b u,h.get? b=some u->h'.get? b=some u):HOk P w H h':=fun a o e=>
 (x a o e).stay (fun b u _ q=>k b u q) (fun _ q=>q) fun _ _ q=>q
theorem HOk.laid(x:HOk P w H h)(k:∀ b u,h.get? b=some u->h'.get? b=some u)(hp:h.objs.size<=a)(new:ObjOk P w (upd H a o) h' a o):HOk P w (upd H a o) h':=fun b u e=>by
 have hn:=x.fresh hp;by_cases hb:b=a
 · subst hb;rw[upd_same]at e;cases e;exact new
 rw[upd_ne hb]at e;exact(x b u e).stay (fun c v _ q=>k c v q) (fun c q=>by rw[upd_ne (ne_of_none q hn)];exact q) fun c xs q=>by rw[upd_ne (ne_of_none q hn)];exact q
end
noncomputable def Rd(H:Hp)(a:Addr)(u:HO):Prop:=H a=some u ∨ ∃ o,H a=some (.frz o u)
theorem Rd.ok{P:Program}{w:World}{H:Hp}{h:Heap}{a:Addr}{u:HO}(r:Rd H a u)(x:HOk P w H h):ObjOk P w H h a u:=by
 rcases r with r | ⟨o,r⟩
 · exact x a u r
 obtain⟨_,q⟩:=x a _ r;exact q
noncomputable def Mut:Option HO->Prop
 | some (.lst _)=>True
 | some (.dK _)=>True
 | some (.dT _)=>True
 | some (.set _ _)=>True
 | some (.ins _ _ _)=>True
 | some (.ext _)=>True
 | _=>False
section
variable{P:Program}{w:World}{H:Hp}{h h':Heap}{x e:Addr}{o':HO}
theorem HOk.write(ok:HOk P w H h)(mu:Mut (H x))(he:e=x∨H e=some (.own x))(k:∀ b u,b≠e->h.get? b=some u->h'.get? b=some u)(heo:∃ u,h'.get? e=some u)
 (new:ObjOk P w (upd H x o') h' x o'):HOk P w (upd H x o') h':=fun b u q=>by
 have nown:∀ c y,H c=some (.own y)->c≠x:=fun c y r z=>by subst z;rw[r]at mu;exact mu
 have ntup:∀ c xs,H c=some (.tup xs)->c≠x:=fun c xs r z=>by subst z;rw[r]at mu;exact mu
 by_cases hb:b=x
 · subst hb;rw[upd_same]at q;cases q;exact new
 rw[upd_ne hb]at q;by_cases hbe:b=e
 · have q':H b=some (.own x):=by
    rcases he with z | z
    · exact absurd (hbe.trans z) hb
    rw[hbe];exact z
   rw[q]at q';cases q';obtain⟨v,hv⟩:=heo;exact⟨v,by rw[hbe];exact hv⟩
 refine(ok b u q).stay (fun c v hc r=>k c v ?_ r) (fun c r=>by rw[upd_ne (nown c b r)];exact r) fun c xs r=>by rw[upd_ne (ntup c xs r)];exact r
 rcases hc with rfl | hc
 · exact hbe
 rintro rfl;rcases he with z | z
 · exact nown c b hc z
 rw[hc]at z;cases z;exact hb rfl
end
structure Un(fs ex:List Addr)(H H':Hp)(h h':Heap):Prop where
 keep:∀ b o,h.get? b=some o->H b=none->b∉fs->b∉ex->h'.get? b=some o
 slot:∀ b o,h.get? b=some o->H b=none->b∈fs->b∉ex -> ∃ sl,h'.get? b=some { o with slots:=sl }
 free:∀ b o,h.get? b=some o->H b=none->b∉ex->H' b=none
 there:∀ b o,h.get? b=some o->b∉ex -> ∃ o',h'.get? b=some o'
 tups:∀ b xs,H b=some (.tup xs)->H' b=some (.tup xs)
 frzs:∀ b o u,H b=some (.frz o u)->H' b=some (.frz o u)
 tbls:∀ b ps,H b=some (.tbl ps) -> ∃ more,H' b=some (.tbl (ps++more))
section
variable{fs fs' ex ex':List Addr}{H H1 H2:Hp}{h h1 h2 h':Heap}{a x e:Addr}{o:HO}
theorem Un.any(u:Un fs ex H H1 h h1){b:Addr}{ob:Obj}(q:h.get? b=some ob)(n:H b=none)(hx:b∉ex):∃ sl,h1.get? b=some { ob with slots:=sl }:=by
 by_cases hb:b∈fs
 · exact u.slot b ob q n hb hx
 exact⟨ob.slots,u.keep b ob q n hb hx⟩
theorem Un.kept(k:∀ b u,h.get? b=some u->h'.get? b=some u):Un fs ex H H h h':=
 ⟨fun b ob q _ _ _=>k b ob q,fun b ob q _ _ _=>⟨ob.slots,k b ob q⟩,fun _ _ _ n _=>n,fun b ob q _=>⟨ob,k b ob q⟩,fun _ _ q=>q,fun _ _ _ q=>q,fun _ ps q=>⟨#[],by rw[q];simp⟩⟩
theorem Un.refl:Un fs ex H H h h:=Un.kept fun _ _ q=>q
theorem Un.laid(k:∀ b u,h.get? b=some u->h'.get? b=some u)(hp:h.objs.size<=a)(hn:H a=none):Un fs ex H (upd H a o) h h' where
 keep:=fun b u q _ _ _=>k b u q
 slot:=fun b u q _ _ _=>⟨u.slots,k b u q⟩
 free:=fun b u q n _=>by rw[upd_ne (Nat.ne_of_lt (Nat.lt_of_lt_of_le (Heap.lt_size q) hp))];exact n
 there:=fun b u q _=>⟨u,k b u q⟩
 tups:=fun b xs q=>by rw[upd_ne (ne_of_none q hn)];exact q
 frzs:=fun b u xs q=>by rw[upd_ne (ne_of_none q hn)];exact q
 tbls:=fun b ps q=>⟨#[],by rw[upd_ne (ne_of_none q hn),q];simp⟩
theorem Un.write(mu:Mut (H x))(he:e=x∨H e=some (.own x))(k:∀ b u,b≠e->h.get? b=some u->h'.get? b=some u)(heo:∃ u,h'.get? e=some u):Un fs ex H (upd H x o) h h':=by
 have hx:∀ b,H b=none->b≠x:=fun b n z=>by subst z;rw[n]at mu;exact mu
 have hb:∀ b,H b=none->b≠e:=fun b n z=>by
  subst z;rcases he with r | r
  · exact hx b n r
  rw[n]at r;cases r
 have hm:∀ b u,H b=some u -> ¬ Mut (some u)->b≠x:=fun b u q nm z=>by subst z;rw[q]at mu;exact nm mu
 refine⟨fun b u q n _ _=>k b u (hb b n) q,fun b u q n _ _=>⟨u.slots,k b u (hb b n) q⟩,fun b u q n _=>by rw[upd_ne (hx b n)];exact n,fun b u q _=>?_,
  fun b xs q=>by rw[upd_ne (hm b _ q fun z=>z)];exact q,fun b u xs q=>by rw[upd_ne (hm b _ q fun z=>z)];exact q,fun b ps q=>⟨#[],by rw[upd_ne (hm b _ q fun z=>z),q];simp⟩⟩
 by_cases hbe:b=e
 · subst hbe;exact heo
 exact⟨u,k b u hbe q⟩
end
noncomputable def trk(h:Heap)(H:Hp):List Addr:=(List.range h.objs.size).filter fun a=>(H a).isSome
noncomputable def hidT(h:Heap)(H:Hp):Heap:=W.hideAll h (trk h H)
theorem hidT_size(h:Heap)(H:Hp):(hidT h H).objs.size=h.objs.size:=W.hideAll_size _ _
theorem hidT_get{h:Heap}{H:Hp}{b:Addr}{o:Obj}(e:h.get? b=some o)(n:H b=none):(hidT h H).get? b=some o:=
 W.hideAll_get _ e fun hm=>by
  have q:(H b).isSome=true:=(List.mem_filter.mp hm).2;rw[n]at q;simp at q
theorem of_hidT{h:Heap}{H:Hp}{b:Addr}{o:Obj}(e:(hidT h H).get? b=some o):h.get? b=some o/\H b=none:=by
 have e':h.get? b=some o:=W.of_hideAll (trk h H) e;refine⟨e',?_⟩;cases q:H b with
 | none=>rfl
 | some x=>
   have hm:b∈trk h H:=List.mem_filter.mpr ⟨List.mem_range.mpr (Heap.lt_size e'),by simp[q]⟩
   have z:(hidT h H).get? b=none:=W.hideAll_none (trk h H) hm;rw[z]at e;cases e
end L2
namespace L2
open PySem PySem.Spec PyProof.Rows
structure Mod(K:W.Frag)(mg:Str->Option Value)(base:Heap):Prop where
 kin:K.In base
 glob:base.Ns mainGlobals mg
 blt:∃ mb,base.Ns builtinsNs mb /\ ∀ x:Str,x ≠ "__name__" -> mb x=bootBuiltins x
 nolimit:base.NoLimit
structure Cx where
 prog:Program
 w:World
 K:W.Frag
 mg:Str->Option Value
 base:Heap
 A:Around
 N:List Str
 s₀:Shared
 H₀:Hp
 env:Env
 outer:List Env
 stack:List Env
 ex:List Addr
 fn:Str->Bool
 calm:Bool
 pn:List (Addr×Obj)
 xe:Value->Shared->Prop
noncomputable def frs(l:List Env):List Addr:=l.filterMap (·.frame)
noncomputable abbrev Cx.fs(X:Cx):List Addr:=frs X.outer
noncomputable def Vis(sc:Scope)(x:Str):Prop:=sc.names.lookup x=some .local∨sc.names.lookup x=some .cell∨sc.names.lookup x=some .free
noncomputable def Loc(sc:Scope)(x:Str):Prop:=sc.names.lookup x=some .local∨sc.names.lookup x=some .cell
noncomputable def Look(env:Env)(h:Heap)(m:Str->Option Value)(x:Str)(u:Value):Prop:=
 (env.kindOf x=some .local/\m x=some u)∨((env.kindOf x=some .cell∨env.kindOf x=some .free) /\ ∃ c,env.cells.lookup x=some c/\h.IsCell c (some u))
structure Cx.Ok(X:Cx):Prop where
 mod:Mod X.K X.mg X.base
 kind:X.env.scope.kind=.function
 glob:X.env.globals=mainGlobals
 blt:X.env.builtins=builtinsNs
 above:X.s₀.heap.objs.size<=X.env.locals
 inj:∀ x y c,X.env.cells.lookup x=some c->X.env.cells.lookup y=some c->x=y
 has:∀ x,(X.env.kindOf x=some .cell∨X.env.kindOf x=some .free) -> ∃ c,X.env.cells.lookup x=some c
 cab:∀ x c,X.fn x=true->X.env.cells.lookup x=some c->X.s₀.heap.objs.size<=c
 hd:X.calm=true->X.A.handled=none
 frames:X.A.frames=some X.stack
 stk:X.stack=X.outer∨(X.stack=X.env::X.outer/\X.env.frame=some X.env.locals)
 exf:∀ b∈X.ex,b≠X.env.locals /\ ∀ x c,X.env.cells.lookup x=some c->c≠b
 bs:∀ b o,X.base.get? b=some o->X.s₀.heap.get? b=some o/\X.H₀ b=none
 bsz:X.base.objs.size<=X.s₀.heap.objs.size
 noex:∀ b o,X.base.get? b=some o->b∉X.ex
 exfs:∀ b∈X.ex,b∉X.fs
 funs:X.s₀.heap.FunFrames X.base X.outer
 frf:∀ b∈X.fs,X.H₀ b=none
structure Inv(X:Cx)(pins:List (Addr×Obj))(σ:List (Option V))(H:Hp)(s:Shared):Prop where
 ok:X.Ok
 os:s.os=X.s₀.os
 bare:AllBare s.gens
 base:Un X.fs X.ex X.H₀ H X.s₀.heap s.heap
 loc:∃ m,s.heap.Ns X.env.locals m /\ ∀(i:Nat) (x:Str) (v:V),X.N[i]?=some x -> σ[i]?=some (some v)->Vis X.env.scope x -> ∃ u,RelV v u/\Look X.env s.heap m x u
 cell:∀ x c,X.env.cells.lookup x=some c -> ∃ v,s.heap.IsCell c v
 free:H X.env.locals=none
 freeC:∀ x c,X.env.cells.lookup x=some c->H c=none
 pin:∀ p∈X.pn++pins,s.heap.get? p.1=some p.2/\H p.1=none/\p.1≠X.env.locals/\p.1∉X.fs /\ ∀ v,p.2.data ≠ .cell v
 hok:HOk X.prog X.w H s.heap
 len:σ.length=X.N.length
section
variable{X:Cx}{pins:List (Addr×Obj)}{σ:List (Option V)}{H H':Hp}{s:Shared}{h':Heap}
theorem Cx.Ok.nofr(ok:X.Ok){b:Addr}{o:Obj}(e:X.base.get? b=some o):b∉X.fs:=fun hb=>by
 have:=(ok.funs.mem hb).1;rw[e]at this;cases this
theorem Inv.bs(I:Inv X pins σ H s):∀ b o,X.base.get? b=some o->s.heap.get? b=some o/\H b=none:=fun b o e=>
 ⟨I.base.keep b o (I.ok.bs b o e).1 (I.ok.bs b o e).2 (I.ok.nofr e) (I.ok.noex b o e),I.base.free b o (I.ok.bs b o e).1 (I.ok.bs b o e).2 (I.ok.noex b o e)⟩
theorem Inv.bk(I:Inv X pins σ H s):∀ b o,X.base.get? b=some o->s.heap.get? b=some o:=fun b o e=>(I.bs b o e).1
theorem Inv.mod(I:Inv X pins σ H s):Mod X.K X.mg X.base:=I.ok.mod
theorem Inv.kIn(I:Inv X pins σ H s):X.K.In s.heap:=I.ok.mod.kin.keeps I.bk
theorem Inv.lt(I:Inv X pins σ H s):X.env.locals < s.heap.objs.size:=let⟨_,hn,_⟩:=I.loc;hn.lt
theorem Inv.sz(I:Inv X pins σ H s):X.s₀.heap.objs.size<=s.heap.objs.size:=Nat.le_trans I.ok.above (Nat.le_of_lt I.lt)
theorem Inv.nofs(I:Inv X pins σ H s){a:Addr}(h:s.heap.objs.size<=a):a∉X.fs:=fun hb=>by
 obtain⟨_,o,ho,_⟩:=I.ok.funs.mem hb;exact absurd (Nat.lt_of_lt_of_le (Heap.lt_size ho) (Nat.le_trans I.sz h)) (Nat.lt_irrefl _)
theorem Inv.cne(I:Inv X pins σ H s):∀ x c,X.env.cells.lookup x=some c->c≠X.env.locals:=fun x c e z=>by
 obtain⟨v,o,ho,hd⟩:=I.cell x c e;obtain⟨m,⟨o',es,ep,ho',hd',_⟩,_⟩:=I.loc;rw[z,ho']at ho;cases ho;rw[hd']at hd;cases hd
theorem Inv.funs(I:Inv X pins σ H s):s.heap.FunFrames X.base X.outer:=by
 have all:∀(l:List Env),(∀ b∈frs l,b∈X.fs)->X.s₀.heap.FunFrames X.base l->s.heap.FunFrames X.base l:=by
  intro l
  induction l with
  | nil=>intro _ _;trivial
  | cons env r ih=>
    intro hs hl;obtain⟨hk,⟨L,o,hf,hn,ho,hd⟩,hr⟩:=hl;have hL:L∈X.fs:=hs L (by unfold frs;rw[List.filterMap_cons,hf];exact List.mem_cons_self)
    obtain⟨sl,e⟩:=I.base.slot L o ho (I.ok.frf L hL) hL fun z=>I.ok.exfs L z hL;exact⟨hk,⟨L,_,hf,hn,e,hd⟩,ih (fun b hb=>hs b (by unfold frs;rw[List.filterMap_cons,hf];exact List.mem_cons_of_mem _ hb)) hr⟩
 exact all X.outer (fun _ hb=>hb) I.ok.funs
theorem Inv.stack(I:Inv X pins σ H s):s.heap.FunFrames X.base X.stack:=by
 rcases I.ok.stk with e | ⟨e,hf⟩
 · rw[e];exact I.funs
 rw[e];obtain⟨m,hn,_⟩:=I.loc;refine .cons (by rw[I.ok.kind];decide) hf hn ?_ I.funs
 exact Heap.get?_none_of_le (Nat.le_trans I.ok.bsz I.ok.above)
theorem Inv.stkSub(I:Inv X pins σ H s):∀ b∈frs X.stack,b∈X.env.locals::X.fs:=fun b hb=>by
 rcases I.ok.stk with e | ⟨e,hf⟩
 · rw[e]at hb;exact List.mem_cons_of_mem _ hb
 rw[e]at hb;unfold frs at hb;rw[List.filterMap_cons,hf]at hb;exact hb
theorem Inv.stkFree(I:Inv X pins σ H s):∀ b∈frs X.stack,H b=none:=fun b hb=>by
 rcases List.mem_cons.mp (I.stkSub b hb)with e | hb
 · rw[e];exact I.free
 obtain⟨_,o,ho,_⟩:=I.ok.funs.mem hb;exact I.base.free b o ho (I.ok.frf b hb) fun z=>I.ok.exfs b z hb
theorem Inv.step{g':Array GenState}{t':Nat}{d':Drawn}{ch:List Addr}(I:Inv X pins σ H s)
 (hch:∀ b∈ch,(b∈X.ex∨X.s₀.heap.objs.size<=b)/\b≠X.env.locals/\(∀ x c,X.env.cells.lookup x=some c->c≠b) /\ ∀ p∈X.pn++pins,p.1≠b)
 (keep:∀ b o,b≠X.env.locals->b∉X.fs->b∉ch->s.heap.get? b=some o->H b=none->h'.get? b=some o)
 (slot:∀ b o,b≠X.env.locals->b∈X.fs->b∉ch->s.heap.get? b=some o->H b=none -> ∃ sl,h'.get? b=some { o with slots:=sl }) (free:∀ b o,b∉ch->s.heap.get? b=some o->H b=none->H' b=none)
 (there:∀ b o,b∉ch->s.heap.get? b=some o -> ∃ o',h'.get? b=some o')
 (tups:∀ b xs,H b=some (.tup xs)->H' b=some (.tup xs)) (frzs:∀ b o u,H b=some (.frz o u)->H' b=some (.frz o u)) (tbls:∀ b ps,H b=some (.tbl ps) -> ∃ more,H' b=some (.tbl (ps++more)))
 (ns:∀ m,s.heap.Ns X.env.locals m->h'.Ns X.env.locals m) (hok:HOk X.prog X.w H' h') (hg:AllBare g') :
 Inv X pins σ H' { s with heap:=h',gens:=g',drawn:=d',toks:=t' }:=by
 have neL:∀ b o,X.s₀.heap.get? b=some o->b≠X.env.locals:=fun b o e=>Nat.ne_of_lt (Nat.lt_of_lt_of_le (Heap.lt_size e) I.ok.above);have neC:∀ b o,X.s₀.heap.get? b=some o->b∉X.ex->b∉ch:=fun b o e hx hb=>by
  rcases(hch b hb).1 with z | z
  · exact hx z
  exact absurd (Nat.lt_of_lt_of_le (Heap.lt_size e) z) (Nat.lt_irrefl _)
 have cellK:∀ x c,X.env.cells.lookup x=some c -> ∀ v,s.heap.IsCell c v->h'.IsCell c v:=fun x c e v ⟨o,ho,hd⟩=>by
  have nch:c∉ch:=fun z=>(hch c z).2.2.1 x c e rfl;by_cases hc:c∈X.fs
  · obtain⟨sl,q⟩:=slot c o (I.cne x c e) hc nch ho (I.freeC x c e)
    exact⟨_,q,hd⟩
  exact⟨o,keep c o (I.cne x c e) hc nch ho (I.freeC x c e),hd⟩
 refine⟨I.ok,I.os,hg,⟨fun b o e n hb hx=>?_,fun b o e n hb hx=>?_,fun b o e n hx=>?_,fun b o e hx=>?_,fun b xs e=>tups b xs (I.base.tups b xs e),fun b o xs e=>frzs b o xs (I.base.frzs b o xs e),fun b ps e=>?_⟩,?_,fun x c e=>?_,?_,fun x c e=>?_,fun p hp=>?_,hok,I.len⟩
 · exact keep b o (neL b o e) hb (neC b o e hx) (I.base.keep b o e n hb hx) (I.base.free b o e n hx)
 · obtain⟨sl,e1⟩:=I.base.slot b o e n hb hx
   obtain⟨sl',e2⟩:=slot b _ (neL b o e) hb (neC b o e hx) e1 (I.base.free b o e n hx);exact⟨sl',e2⟩
 · obtain⟨o',e1⟩:=I.base.there b o e hx
   exact free b o' (neC b o e hx) e1 (I.base.free b o e n hx)
 · obtain⟨o',e1⟩:=I.base.there b o e hx
   exact there b o' (neC b o e hx) e1
 · obtain⟨m1,e1⟩:=I.base.tbls b ps e
   obtain⟨m2,e2⟩:=tbls b _ e1;exact⟨m1++m2,by rw[e2,Array.append_assoc]⟩
 · obtain⟨m,hn,hl⟩:=I.loc
   refine⟨m,ns m hn,fun i x v e1 e2 e3=>?_⟩;obtain⟨u,r,l⟩:=hl i x v e1 e2 e3;refine⟨u,r,?_⟩;rcases l with l | ⟨k,c,e,z⟩
   · exact .inl l
   exact .inr ⟨k,c,e,cellK x c e _ z⟩
 · obtain⟨v,z⟩:=I.cell x c e
   exact⟨v,cellK x c e v z⟩
 · obtain⟨m,⟨o,_,_,ho,_⟩,_⟩:=I.loc
   exact free _ o (fun z=>(hch _ z).2.1 rfl) ho I.free
 · obtain⟨v,o,ho,hd⟩:=I.cell x c e
   exact free c o (fun z=>(hch c z).2.2.1 x c e rfl) ho (I.freeC x c e)
 obtain⟨e,n,ne,nf,d⟩:=I.pin p hp;have nch:p.1∉ch:=fun z=>(hch p.1 z).2.2.2 p hp rfl;exact⟨keep p.1 p.2 ne nf nch e n,free p.1 p.2 nch e n,ne,nf,d⟩
theorem Inv.un{t':Nat}(I:Inv X pins σ H s)(u:Un X.fs [] H H' s.heap h')(hok:HOk X.prog X.w H' h'):Inv X pins σ H' { s with heap:=h',toks:=t' }:=by
 obtain⟨m,⟨o,es,ep,ho,r⟩,_⟩:=id I.loc;obtain⟨sl,hL⟩:=u.any ho I.free (by simp)
 exact I.step (g':=s.gens) (d':=s.drawn) (ch:=[]) (fun _ z=>nomatch z) (fun b o _ hb _ e n=>u.keep b o e n hb (by simp)) (fun b o _ hb _ e n=>u.slot b o e n hb (by simp)) (fun b o _ e n=>u.free b o e n (by simp)) (fun b o _ e=>u.there b o e (by simp)) u.tups u.frzs u.tbls (fun m' hm=>by
  obtain⟨o',es',ep',ho',r'⟩:=hm;rw[ho]at ho';cases ho';exact⟨_,es',ep',hL,r'⟩) hok I.bare
theorem Inv.call{g':Array GenState}{t':Nat}{d':Drawn}{ch:List Addr}(I:Inv X pins σ H s)(u:Un (frs X.stack) ch H H' s.heap h')(hok:HOk X.prog X.w H' h')(hg:AllBare g')
 (hch:∀ b∈ch,(b∈X.ex∨X.s₀.heap.objs.size<=b)/\b≠X.env.locals/\(∀ x c,X.env.cells.lookup x=some c->c≠b) /\ ∀ p∈X.pn++pins,p.1≠b) :
 Inv X pins σ H' { s with heap:=h',gens:=g',drawn:=d',toks:=t' }:=by
 obtain⟨m,⟨o,es,ep,ho,r⟩,_⟩:=id I.loc;obtain⟨sl,hL⟩:=u.any ho I.free fun z=>(hch _ z).2.1 rfl;exact I.step (ch:=ch) hch (fun b o hL hb hc e n=>u.keep b o e n (fun z=>(List.mem_cons.mp (I.stkSub b z)).elim hL hb) hc) (fun b o _ _ hc e n=>u.any e n hc) (fun b o hc e n=>u.free b o e n hc) (fun b o hc e=>u.there b o e hc) u.tups u.frzs u.tbls (fun m' hm=>by
  obtain⟨o',es',ep',ho',r'⟩:=hm;rw[ho]at ho';cases ho';exact⟨_,es',ep',hL,r'⟩) hok hg
theorem Inv.turned{t':Nat}{it:Addr}(I:Inv X pins σ H s)(k:∀ b o,b≠it->s.heap.get? b=some o->h'.get? b=some o)(hn:H it=none)(hL:it≠X.env.locals)
 (h1:it∈X.ex∨X.s₀.heap.objs.size<=it) (h2:∀ x c,X.env.cells.lookup x=some c->c≠it) (h3:∀ p∈X.pn++pins,p.1≠it):Inv X pins σ H { s with heap:=h',toks:=t' }:=by
 have nit:∀ b u,H b=some u->b≠it:=fun b u e z=>by rw[z,hn]at e;cases e
 refine I.step (g':=s.gens) (d':=s.drawn) (ch:=[it]) (fun b hb=>?_) (fun b o _ _ hc e _=>k b o (fun z=>hc (by simp[z])) e) (fun b o _ _ hc e _=>⟨o.slots,k b o (fun z=>hc (by simp[z])) e⟩) (fun _ _ _ _ n=>n)
  (fun b o hc e=>⟨o,k b o (fun z=>hc (by simp[z])) e⟩) (fun _ _ e=>e) (fun _ _ _ e=>e) (fun b ps e=>⟨#[],by rw[e];simp⟩) (fun m hm=>?_) (fun b u e=>?_) I.bare
 · have e:b=it:=by simpa using hb
   subst e;exact⟨h1,hL,h2,h3⟩
 · obtain⟨o,es,ep,ho,r⟩:=hm
   exact⟨o,es,ep,k _ o (Ne.symm hL) ho,r⟩
 refine(I.hok b u e).stay (fun c v hc q=>k c v ?_ q) (fun _ q=>q) fun _ _ q=>q;rcases hc with z | z
 · rw[z];exact nit b u e
 exact nit c _ z
theorem Inv.tok(I:Inv X pins σ H s)(t:Nat):Inv X pins σ H { s with toks:=t }:=I.un (h':=s.heap) (t':=t) Un.refl I.hok
theorem Inv.kept{t':Nat}(I:Inv X pins σ H s)(k:∀ b u,s.heap.get? b=some u->h'.get? b=some u):Inv X pins σ H { s with heap:=h',toks:=t' }:=I.un (Un.kept k) (I.hok.kept k)
theorem Inv.laid{a:Addr}{o:HO}{t':Nat}(I:Inv X pins σ H s)(k:∀ b u,s.heap.get? b=some u->h'.get? b=some u)(hp:s.heap.objs.size<=a)(new:ObjOk X.prog X.w (upd H a o) h' a o) :
 Inv X pins σ (upd H a o) { s with heap:=h',toks:=t' }:=I.un (Un.laid k hp (I.hok.fresh hp)) (I.hok.laid k hp new)
theorem Inv.write{x e:Addr}{o:HO}{t':Nat}(I:Inv X pins σ H s)(mu:Mut (H x))(he:e=x∨H e=some (.own x))(k:∀ b u,b≠e->s.heap.get? b=some u->h'.get? b=some u)(heo:∃ u,h'.get? e=some u)
 (new:ObjOk X.prog X.w (upd H x o) h' x o):Inv X pins σ (upd H x o) { s with heap:=h',toks:=t' }:=I.un (Un.write mu he k heo) (I.hok.write mu he k heo new)
theorem Inv.pins_of{pins':List (Addr×Obj)}(I:Inv X pins σ H s)(h:∀ p∈pins',s.heap.get? p.1=some p.2/\H p.1=none/\p.1≠X.env.locals/\p.1∉X.fs /\ ∀ v,p.2.data ≠ .cell v):Inv X pins' σ H s:=
 ⟨I.ok,I.os,I.bare,I.base,I.loc,I.cell,I.free,I.freeC,fun p hp=>(List.mem_append.mp hp).elim (fun z=>I.pin p (List.mem_append_left _ z)) (h p),I.hok,I.len⟩
theorem nodup_ix{N:List Str}(hN:N.Nodup){i j:Nat}{x:Str}(a:N[i]?=some x)(b:N[j]?=some x):i=j:=by
 obtain⟨h1,e1⟩:=List.getElem?_eq_some_iff.mp a;obtain⟨h2,e2⟩:=List.getElem?_eq_some_iff.mp b;exact(List.getElem_inj hN).mp (e1.trans e2.symm)
theorem store_ok2{M:Model}{A:Around}{E:Value->Shared->Prop}{i:Nat}{x:Str}{v:V}{u:Value}{Q:Unit->Shared->Prop}(I:Inv X pins σ H s)(hN:X.N.Nodup)(hi:X.N[i]?=some x)(hx:Loc X.env.scope x)(r:RelV v u)
 (h:∀ s',Inv X pins (σ.set i (some v)) H s'->(∃ a,Heap.SameBut a s.heap s'.heap/\(a=X.env.locals∨X.env.cells.lookup x=some a))->Q () s') (hf:X.fn x=true∨X.env.scope.names.lookup x=some .local:=by first | exact .inl rfl | exact .inr rfl | assumption):wpAny M A (storeName X.env x u) Q E s:=by
 obtain⟨m,hn,hl⟩:=id I.loc;have hcls:(X.env.scope.kind == .class || (X.env.scope.kind == .module && X.env.locals != X.env.globals))=false:=by rw[I.ok.kind];rfl
 have hiσ:i < σ.length:=by rw[I.len];exact(List.getElem?_eq_some_iff.mp hi).1
 have cne:=I.cne;have tracked:∀{a:Addr}{h':Heap},(∃ o,s.heap.get? a=some o/\H a=none)->Heap.SameBut a s.heap h'->HOk X.prog X.w H h':=fun {a h'} ha hs b ob e=>by
  obtain⟨_,_,hfree⟩:=ha;refine(I.hok b ob e).stay (fun c w' hc q=>(hs.2 c ?_).trans q) (fun _ q=>q) fun _ _ q=>q;rintro rfl;rcases hc with rfl | hc
  · rw[hfree]at e;cases e
  rw[hfree]at hc;cases hc
 rcases hx with hk | hk
 · refine wpAny_storeName_local hk hn (fun h' hn' hs=>?_) hcls
   obtain⟨oL,_,_,hoL,_⟩:=id hn;refine h _ ⟨I.ok,I.os,I.bare,⟨fun b o e n hb hx=>?_,fun b o e n hb hx=>?_,I.base.free,fun b o e hx=>?_,I.base.tups,I.base.frzs,I.base.tbls⟩,⟨_,hn',fun j y v' e1 e2 e3=>?_⟩,fun y c e=>?_,I.free,I.freeC,fun p hp=>?_,tracked ⟨oL,hoL,I.free⟩ hs,by simpa using I.len⟩ ⟨_,hs,.inl rfl⟩
   · exact(hs.2 b (Nat.ne_of_lt (Nat.lt_of_lt_of_le (Heap.lt_size e) I.ok.above))).trans (I.base.keep b o e n hb hx)
   · obtain⟨sl,e1⟩:=I.base.slot b o e n hb hx
     exact⟨sl,(hs.2 b (Nat.ne_of_lt (Nat.lt_of_lt_of_le (Heap.lt_size e) I.ok.above))).trans e1⟩
   · obtain⟨o',e1⟩:=I.base.there b o e hx
     exact⟨o',(hs.2 b (Nat.ne_of_lt (Nat.lt_of_lt_of_le (Heap.lt_size e) I.ok.above))).trans e1⟩
   · by_cases hj:j=i
     · subst hj
       rw[hi]at e1;cases e1;rw[List.getElem?_set_self hiσ]at e2;cases e2;exact⟨u,r,.inl ⟨hk,by simp⟩⟩
     rw[List.getElem?_set_ne (Ne.symm hj)]at e2;obtain⟨u',r',q⟩:=hl j y v' e1 e2 e3;refine⟨u',r',?_⟩;rcases q with ⟨k,e⟩ | ⟨k,c,e,z⟩
     · refine .inl ⟨k,?_⟩
       have:y≠x:=fun e=>hj (nodup_ix hN e1 (e ▸ hi));simp[this,e]
     exact .inr ⟨k,c,e,z.sameBut hs (cne y c e)⟩
   · obtain⟨w',z⟩:=I.cell y c e
     exact⟨w',z.sameBut hs (cne y c e)⟩
   obtain⟨e,n,ne,nf,d⟩:=I.pin p hp;exact⟨(hs.2 p.1 ne).trans e,n,ne,nf,d⟩
 have hfn:X.fn x=true:=by
  rcases hf with z | z
  · exact z
  rw[z]at hk;cases hk
 obtain⟨c,hc⟩:=I.ok.has x (.inl hk);obtain⟨w',z⟩:=I.cell x c hc;refine wpAny_storeName_cell I.ok.kind hk hc z (fun h' hc' hs=>?_);obtain⟨oc,hoc,hocd⟩:=id z;refine h { s with heap:=h' } ⟨I.ok,I.os,I.bare,⟨fun b o e n hb hx=>?_,fun b o e n hb hx=>?_,I.base.free,fun b o e hx=>?_,I.base.tups,I.base.frzs,I.base.tbls⟩,⟨m,hn.sameBut hs (Ne.symm (cne x c hc)),fun j y v' e1 e2 e3=>?_⟩,fun y c' e=>?_,I.free,I.freeC,fun p hp=>?_,tracked ⟨oc,hoc,I.freeC x c hc⟩ hs,by simpa using I.len⟩ ⟨c,hs,.inr hc⟩
 · exact(hs.2 b (Nat.ne_of_lt (Nat.lt_of_lt_of_le (Heap.lt_size e) (I.ok.cab x c hfn hc)))).trans (I.base.keep b o e n hb hx)
 · obtain⟨sl,e1⟩:=I.base.slot b o e n hb hx
   exact⟨sl,(hs.2 b (Nat.ne_of_lt (Nat.lt_of_lt_of_le (Heap.lt_size e) (I.ok.cab x c hfn hc)))).trans e1⟩
 · obtain⟨o',e1⟩:=I.base.there b o e hx
   exact⟨o',(hs.2 b (Nat.ne_of_lt (Nat.lt_of_lt_of_le (Heap.lt_size e) (I.ok.cab x c hfn hc)))).trans e1⟩
 · by_cases hj:j=i
   · subst hj
     rw[hi]at e1;cases e1;rw[List.getElem?_set_self hiσ]at e2;cases e2;exact⟨u,r,.inr ⟨.inl hk,c,hc,hc'⟩⟩
   rw[List.getElem?_set_ne (Ne.symm hj)]at e2;obtain⟨u',r',q⟩:=hl j y v' e1 e2 e3;refine⟨u',r',?_⟩;rcases q with q | ⟨k,c',e,z'⟩
   · exact .inl q
   refine .inr ⟨k,c',e,z'.sameBut hs ?_⟩;rintro rfl;exact hj (nodup_ix hN e1 (I.ok.inj _ _ _ e hc ▸ hi))
 · by_cases hcc:c'=c
   · subst hcc;exact⟨_,hc'⟩
   obtain⟨w2,z2⟩:=I.cell y c' e;exact⟨w2,z2.sameBut hs hcc⟩
 obtain⟨e,n,ne,nf,d⟩:=I.pin p hp;refine⟨(hs.2 p.1 ?_).trans e,n,ne,nf,d⟩;intro q;rw[q,hoc]at e;have q':oc=p.2:=Option.some.inj e;exact d w' (by rw[← q'];exact hocd)
theorem store_ok{M:Model}{A:Around}{E:Value->Shared->Prop}{i:Nat}{x:Str}{v:V}{u:Value}{Q:Unit->Shared->Prop}(I:Inv X pins σ H s)(hN:X.N.Nodup)(hi:X.N[i]?=some x)(hx:Loc X.env.scope x)(r:RelV v u)
 (h:∀ s',Inv X pins (σ.set i (some v)) H s'->Q () s') (hf:X.fn x=true∨X.env.scope.names.lookup x=some .local:=by first | exact .inl rfl | exact .inr rfl | assumption):wpAny M A (storeName X.env x u) Q E s:=
 store_ok2 I hN hi hx r (fun s' I' _=>h s' I') hf
theorem Inv.call'{s':Shared}{ch:List Addr}(I:Inv X pins σ H s)(ho:s'.os=s.os)(u:Un (frs X.stack) ch H H' s.heap s'.heap)(hok:HOk X.prog X.w H' s'.heap)(hg:AllBare s'.gens)
 (hch:∀ b∈ch,(b∈X.ex∨X.s₀.heap.objs.size<=b)/\b≠X.env.locals/\(∀ x c,X.env.cells.lookup x=some c->c≠b) /\ ∀ p∈X.pn++pins,p.1≠b):Inv X pins σ H' s':=by
 obtain⟨h',g',d',t',o'⟩:=s';have e:o'=s.os:=ho;subst e;exact I.call (g':=g') (t':=t') (d':=d') u hok hg hch
end
noncomputable abbrev XK:=Value->Option Addr->Hp->Prop
noncomputable abbrev St:=List (Option V)
noncomputable abbrev VK:=V->Hp->Prop
noncomputable abbrev TE:=St->Hp->VK->Prop
noncomputable abbrev TT:=St->Hp->(Bool->Hp->Prop)->Prop
noncomputable abbrev TA:=St->Hp->(List V->Hp->Prop)->Prop
structure Ends where
 nx:St->Hp->Prop
 rt:VK
 bk:St->Hp->Prop:=fun _ _=>False
 ct:St->Hp->Prop:=fun _ _=>False
noncomputable abbrev TS:=Ends->St->Hp->Prop
noncomputable def EP(X:Cx)(pins:List (Addr×Obj))(σ:St)(Q:VK)(u:Value)(s':Shared):Prop:=∃ v H',Inv X pins σ H' s'/\RelV v u/\Q v H'
noncomputable def TP(X:Cx)(pins:List (Addr×Obj))(σ:St)(Q:Bool->Hp->Prop)(b:Bool)(s':Shared):Prop:=∃ H',Inv X pins σ H' s'/\Q b H'
noncomputable def AP(X:Cx)(pins:List (Addr×Obj))(σ:St)(Q:List V->Hp->Prop)(us:List Value)(s':Shared):Prop:=∃ vs H',Inv X pins σ H' s'/\Vals vs us/\Q vs H'
noncomputable def SP(X:Cx)(pins:List (Addr×Obj))(D:Ends)(f:Flow)(s':Shared):Prop:=
 match f with
 | .next=>∃ σ' H',Inv X pins σ' H' s'/\D.nx σ' H'
 | .brk=>∃ σ' H',Inv X pins σ' H' s'/\D.bk σ' H'
 | .cont=>∃ σ' H',Inv X pins σ' H' s'/\D.ct σ' H'
 | .ret u=>∃ v σ' H',Inv X pins σ' H' s'/\RelV v u/\D.rt v H'
noncomputable def PE(X:Cx)(e:Expr)(t:TE):Prop:=
 ∀(pins:List (Addr×Obj)) (s:Shared) (σ:St) (H:Hp) (Q:VK),Inv X pins σ H s->t σ H Q->wpAny (model X.prog X.w) X.A (eval e X.env) (EP X pins σ Q) X.xe s
noncomputable def PT(X:Cx)(e:Expr)(t:TT):Prop:=
 ∀(pins:List (Addr×Obj)) (s:Shared) (σ:St) (H:Hp) (Q:Bool->Hp->Prop),Inv X pins σ H s->t σ H Q->wpAny (model X.prog X.w) X.A (isTrue e X.env (eval e X.env)) (TP X pins σ Q) X.xe s
noncomputable def PW(X:Cx)(e:Expr)(t:TT):Prop:=
 ∀(whole:Sem Value) (pins:List (Addr×Obj)) (s:Shared) (σ:St) (H:Hp) (Q:Bool->Hp->Prop),Inv X pins σ H s->t σ H Q->wpAny (model X.prog X.w) X.A (isTrue e X.env whole) (TP X pins σ Q) X.xe s
theorem PW.pt{X:Cx}{e:Expr}{t:TT}(h:PW X e t):PT X e t:=h _
noncomputable def PA(X:Cx)(es:List Expr)(t:TA):Prop:=
 ∀(pos:Pos) (pins:List (Addr×Obj)) (s:Shared) (σ:St) (H:Hp) (Q:List V->Hp->Prop),Inv X pins σ H s->t σ H Q->wpAny (model X.prog X.w) X.A (spliced (backTo pos (starEach es X.env))) (AP X pins σ Q) X.xe s
noncomputable def PS(X:Cx)(st:Stmt)(t:TS):Prop:=
 ∀(pins:List (Addr×Obj)) (s:Shared) (σ:St) (H:Hp) (D:Ends),Inv X pins σ H s->t D σ H->wpAny (model X.prog X.w) X.A (exec st X.env) (SP X pins D) X.xe s
noncomputable def PSs(X:Cx)(st:List Stmt)(t:TS):Prop:=
 ∀(pins:List (Addr×Obj)) (s:Shared) (σ:St) (H:Hp) (D:Ends),Inv X pins σ H s->t D σ H->wpAny (model X.prog X.w) X.A (execs st X.env) (SP X pins D) X.xe s
theorem thn{α:Type}{t:Sem α}{Q Q':α -> Shared->Prop}{M:Model}{A:Around}{E:Value->Shared->Prop}{s:Shared}(h:wpAny M A t Q E s)(hQ:∀ a s,Q a s->Q' a s):wpAny M A t Q' E s:=wpAny_mono h hQ fun _ _ x=>x
end L2
namespace L2
open PySem PySem.Spec PyProof.Rows
section
variable{X:Cx}
noncomputable def tVar(i:Nat):TE:=fun σ H Q=>∃ v,σ[i]?=some (some v)/\Q v H
noncomputable def tC(v:V):TE:=fun _ H Q=>Q v H
theorem pe_var{i:Nat}{x:Str}{pos:Pos}(hN:X.N[i]?=some x)(hv:Vis X.env.scope x)(hd:(x == ("__debug__":Str))=false:=by decide)(hcd:(x == ("__classdict__":Str))=false:=by decide):PE X (.Name x pos) (tVar i):=by
 intro pins s σ H Q I h;obtain⟨v,e,h⟩:=h;obtain⟨m,hn,hl⟩:=I.loc;obtain⟨u,r,l⟩:=hl i x v hN e hv;have fin:EP X pins σ Q u s:=⟨v,H,I,r,h⟩;rcases l with ⟨hk,hm⟩ | ⟨hk,c,hc,hcell⟩
 · exact wpAny_Name (wpAny_loadName_local I.ok.kind hk hn hm fin) hd
 rcases hk with hk | hk
 · exact wpAny_Name (wpAny_loadName_cell I.ok.kind hk hc hcell fin) hd
 exact wpAny_Name (wpAny_loadName_free I.ok.kind hk hc hcell fin hcd) hd
theorem pe_int{i j pos}:PE X (.Constant (.int i) j pos) (tC (.int i)):=fun _ _ _ H _ I h=>wpAny_Constant_int ⟨.int i,H,I.tok _,⟨_,rfl⟩,h⟩
theorem pe_bl{b j pos}:PE X (.Constant (.bool b) j pos) (tC (.bl b)):=fun _ _ _ H _ I h=>Constant_bool ⟨.bl b,H,I,rfl,h⟩
theorem pe_non{j pos}:PE X (.Constant .none j pos) (tC .non):=fun _ _ _ H _ I h=>Constant_none ⟨.non,H,I,rfl,h⟩
theorem pe_str{x j pos}:PE X (.Constant (.str x) j pos) (tC (.str x)):=fun _ _ _ H _ I h=>Calls.Constant_str ⟨.str x,H,I.tok _,⟨_,rfl⟩,h⟩
noncomputable def Gl(X:Cx)(x:Str):Prop:=X.env.kindOf x=some .globalImplicit
theorem ld_glob{E:Value->Shared->Prop}{pins:List (Addr×Obj)}{s:Shared}{σ:St}{H:Hp}{x:Str}{u:Value}{pos:Pos}{Q:Value->Shared->Prop}(I:Inv X pins σ H s)(hg:Gl X x)(hm:X.mg x=some u)(h:Q u s)
 (hd:(x == ("__debug__":Str))=false:=by decide):wpAny (model X.prog X.w) X.A (eval (.Name x pos) X.env) Q E s:=
 Calls.Name_function_global I.ok.kind hg (Calls.loadGlobal_global (by rw[I.ok.glob];exact I.mod.glob.keeps I.bk) hm h) hd
theorem ld_blt{E:Value->Shared->Prop}{pins:List (Addr×Obj)}{s:Shared}{σ:St}{H:Hp}{x:Str}{u:Value}{pos:Pos}{Q:Value->Shared->Prop}(I:Inv X pins σ H s)(hg:Gl X x)(hm:X.mg x=none)(hv:bootBuiltins x=some u)(h:Q u s)
 (hn:x ≠ "__name__":=by decide) (hd:(x == ("__debug__":Str))=false:=by decide):wpAny (model X.prog X.w) X.A (eval (.Name x pos) X.env) Q E s:=by
 obtain⟨mb,h1,h2⟩:=I.mod.blt;exact Calls.Name_function_global I.ok.kind hg (Calls.loadGlobal_builtin (by rw[I.ok.glob];exact I.mod.glob.keeps I.bk) hm (by rw[I.ok.blt];exact h1.keeps I.bk) ((h2 x hn).trans hv) h) hd
theorem pe_glob{x:Str}{v:V}{u:Value}{pos:Pos}(hg:Gl X x)(hm:X.mg x=some u)(r:RelV v u)(hd:(x == ("__debug__":Str))=false:=by decide):PE X (.Name x pos) (tC v):=
 fun _ _ _ H _ I h=>ld_glob I hg hm ⟨v,H,I,r,h⟩ hd
theorem pe_bltn{x:Str}{v:V}{u:Value}{pos:Pos}(hg:Gl X x)(hm:X.mg x=none)(hv:bootBuiltins x=some u)(r:RelV v u)(hn:x ≠ "__name__":=by decide)(hd:(x == ("__debug__":Str))=false:=by decide):PE X (.Name x pos) (tC v):=
 fun _ _ _ H _ I h=>ld_blt I hg hm hv ⟨v,H,I,r,h⟩ hn hd
variable{a b:Expr}{ta tb:TE}{pos:Pos}
noncomputable def tB(t:TE):TT:=fun σ H Q=>t σ H fun x H1=>∃ c,x=.bl c/\Q c H1
theorem pt_val{e:Expr}{t:TE}(h:PE X e t)(he:∀ whole,isTrue e X.env whole=(do let v ← whole;standAt e.pos;holding [v] (truthy v)):=by intro _;rfl):PT X e (tB t):=by
 intro pins s σ H Q I hw;refine isTrue_plain (thn (h pins s σ H _ I hw) fun v s1 ⟨x,H1,I1,r1,q1⟩=>?_) (he _);obtain⟨d,rfl,q⟩:=q1;cases r1;exact wpAny_truthy_bool ⟨H1,I1,q⟩
variable{tA tB':TT}{rest:List Expr}
noncomputable def tAnd(t u:TT):TT:=fun σ H Q=>t σ H fun c H1=>if c=true then u σ H1 Q else Q false H1
noncomputable def tOr(t u:TT):TT:=fun σ H Q=>t σ H fun c H1=>if c=true then Q true H1 else u σ H1 Q
noncomputable def tNot(t:TT):TT:=fun σ H Q=>t σ H fun c H1=>Q (!c) H1
theorem pw_and1(ha:PT X a tA):PW X (.BoolOp .And [a] pos) tA:=by
 intro wh pins s σ H Q I h;refine isTrue_and (thn (ha pins s σ H Q I h) fun c s1 e=>?_);cases c with
 | true=>exact isTrue_and_nil e
 | false=>exact e
theorem pw_or1(ha:PT X a tA):PW X (.BoolOp .Or [a] pos) tA:=by
 intro wh pins s σ H Q I h;refine isTrue_or (thn (ha pins s σ H Q I h) fun c s1 e=>?_);cases c with
 | false=>exact isTrue_or_nil e
 | true=>exact e
theorem pw_and(ha:PT X a tA)(hb:PW X (.BoolOp .And (b::rest) pos) tB'):PW X (.BoolOp .And (a::b::rest) pos) (tAnd tA tB'):=by
 intro wh pins s σ H Q I h;refine isTrue_and (thn (ha pins s σ H _ I h) fun c s1 zz=>?_);obtain⟨H1,I1,q1⟩:=zz;cases c with
 | true=>exact hb wh pins s1 σ H1 Q I1 q1
 | false=>exact⟨H1,I1,q1⟩
theorem pw_or(ha:PT X a tA)(hb:PW X (.BoolOp .Or (b::rest) pos) tB'):PW X (.BoolOp .Or (a::b::rest) pos) (tOr tA tB'):=by
 intro wh pins s σ H Q I h;refine isTrue_or (thn (ha pins s σ H _ I h) fun c s1 zz=>?_);obtain⟨H1,I1,q1⟩:=zz;cases c with
 | true=>exact⟨H1,I1,q1⟩
 | false=>exact hb wh pins s1 σ H1 Q I1 q1
theorem pt_not(ha:PT X a tA):PT X (.UnaryOp .Not a pos) (tNot tA):=by
 intro pins s σ H Q I h;exact isTrue_not (ha pins s σ H (fun c H1=>Q (!c) H1) I h)
noncomputable def tAndV(ta tb:TE):TE:=fun σ H Q=>ta σ H fun x H1=>∃ c,x=.bl c/\if c=true then tb σ H1 Q else Q (.bl false) H1
noncomputable def tOrV(ta tb:TE):TE:=fun σ H Q=>ta σ H fun x H1=>∃ c,x=.bl c/\if c=true then Q (.bl true) H1 else tb σ H1 Q
noncomputable def tNotV(ta:TE):TE:=fun σ H Q=>ta σ H fun x H1=>∃ c,x=.bl c/\Q (.bl (!c)) H1
theorem pe_one{op}{t:TE}(h:PE X a t):PE X (.BoolOp op [a] pos) t:=fun pins s σ H Q I hw=>BoolOp_one (h pins s σ H Q I hw)
theorem pe_and(ha:PE X a ta)(hb:PE X (.BoolOp .And (b::rest) pos) tb):PE X (.BoolOp .And (a::b::rest) pos) (tAndV ta tb):=by
 intro pins s σ H Q I h;refine BoolOp_and (thn (ha pins s σ H _ I h) fun v s1 zz=>?_);obtain⟨x,H1,I1,r1,q1⟩:=zz;obtain⟨c,rfl,q1⟩:=q1;cases r1;refine wpAny_truthy_bool ?_;cases c with
 | true=>exact hb pins s1 σ H1 Q I1 q1
 | false=>exact⟨.bl false,H1,I1,rfl,q1⟩
theorem pe_or(ha:PE X a ta)(hb:PE X (.BoolOp .Or (b::rest) pos) tb):PE X (.BoolOp .Or (a::b::rest) pos) (tOrV ta tb):=by
 intro pins s σ H Q I h;refine BoolOp_or (thn (ha pins s σ H _ I h) fun v s1 zz=>?_);obtain⟨x,H1,I1,r1,q1⟩:=zz;obtain⟨c,rfl,q1⟩:=q1;cases r1;refine wpAny_truthy_bool ?_;cases c with
 | false=>exact hb pins s1 σ H1 Q I1 q1
 | true=>exact⟨.bl true,H1,I1,rfl,q1⟩
theorem pe_not(ha:PE X a ta):PE X (.UnaryOp .Not a pos) (tNotV ta):=by
 intro pins s σ H Q I h;refine UnaryOp_ (thn (ha pins s σ H _ I h) fun v s1 zz=>?_);obtain⟨x,H1,I1,r1,q1⟩:=zz;obtain⟨c,rfl,q1⟩:=q1;cases r1;exact not_of (wpAny_truthy_bool ⟨.bl (!c),H1,I1,rfl,q1⟩)
end
end L2
namespace L2
open PySem PySem.Spec PyProof.Rows
noncomputable def SqL(K:W.Frag)(H:Hp)(a:Addr)(xs:List V):Prop:=
 Rd H a (.lst xs) ∨
  ∃(o:Obj) (its:Array Value) (n:Nat),K.lookup a=some o/\o.cls=.type "list" /\ o.dict=none/\o.data=.seq its n/\its.size<=sizeLine/\Vals xs its.toList
noncomputable def SqT(K:W.Frag)(H:Hp)(a:Addr)(xs:List V):Prop:=
 Rd H a (.tup xs) ∨
  ∃(o:Obj) (its:Array Value) (n:Nat),K.lookup a=some o/\o.cls=.type "tuple" /\ o.data=.seq its n/\its.size<=sizeLine/\Vals xs its.toList
noncomputable def absV:Value->Option V
 | .none=>some .non
 | .bool b=>some (.bl b)
 | .int i _=>some (.int i)
 | .str x _=>some (.str x)
 | .bytes b _=>some (.byt b)
 | .float b _=>some (.flt b)
 | .ref a=>some (.ref a)
 | .type n=>some (.ty n)
 | _=>none
theorem RelV.abs{x:V}{u:Value}(r:RelV x u):absV u=some x:=by
 cases x with
 | non=>cases r;rfl
 | bl _=>cases r;rfl
 | int _=>obtain⟨t,rfl⟩:=r;rfl
 | str _=>obtain⟨t,rfl⟩:=r;rfl
 | byt _=>obtain⟨t,rfl⟩:=r;rfl
 | flt _=>obtain⟨t,rfl⟩:=r;rfl
 | ref _=>cases r;rfl
 | ty _=>cases r;rfl
theorem RelV.inj{x y:V}{u:Value}(r:RelV x u)(q:RelV y u):x=y:=Option.some.inj (r.abs.symm.trans q.abs)
theorem Vals.inj:∀{xs ys:List V}{us:List Value},Vals xs us->Vals ys us->xs=ys
 | _,_,_,.nil,.nil=>rfl
 | _,_,_,.cons r t,.cons r' t'=>by rw[r.inj r',Vals.inj t t']
section
variable{X:Cx}{pins:List (Addr×Obj)}{σ:St}{H:Hp}{s:Shared}{a:Addr}{xs ys:List V}
theorem SqL.of{K:W.Frag}(h:H a=some (.lst xs)):SqL K H a xs:=.inl (.inl h)
theorem SqT.of{K:W.Frag}(h:H a=some (.tup xs)):SqT K H a xs:=.inl (.inl h)
theorem Inv.list(I:Inv X pins σ H s)(h:SqL X.K H a xs):∃ its:List Value,Vals xs its/\PlainL s.heap a its.toArray/\xs.length<=sizeLine:=by
 rcases h with h | ⟨o,its,n,hk,hc,hd,hs,hz,r⟩
 · obtain⟨z,its,n,r,e⟩:=h.ok I.hok
   exact⟨its,r,⟨_,n,e,rfl,rfl,rfl⟩,z⟩
 refine⟨its.toList,r,⟨o,n,I.kIn a o hk,hc,hd,by simpa using hs⟩,?_⟩
 have e:=r.length;simp only[Array.length_toList]at e;omega
theorem Inv.tuple(I:Inv X pins σ H s)(h:SqT X.K H a xs):∃ its:List Value,Vals xs its/\IsTup s.heap a its.toArray/\xs.length<=sizeLine:=by
 rcases h with h | ⟨o,its,n,hk,hc,hs,hz,r⟩
 · obtain⟨z,its,r,p⟩:=h.ok I.hok
   exact⟨its,r,p,z⟩
 refine⟨its.toList,r,⟨o,I.kIn a o hk,hc,n,by simpa using hs⟩,?_⟩
 have e:=r.length;simp only[Array.length_toList]at e;omega
theorem Inv.list_inj(I:Inv X pins σ H s)(h:SqL X.K H a xs)(h':SqL X.K H a ys):xs=ys:=by
 obtain⟨its,r,⟨o,n,e,_,_,d⟩,_⟩:=I.list h;obtain⟨its',r',⟨o',n',e',_,_,d'⟩,_⟩:=I.list h';rw[e]at e';cases e';rw[d]at d';injection d' with d1 _;have:its=its':=by simpa using congrArg Array.toList d1
 subst this;exact r.inj r'
theorem Inv.tuple_inj(I:Inv X pins σ H s)(h:SqT X.K H a xs)(h':SqT X.K H a ys):xs=ys:=by
 obtain⟨its,r,⟨o,e,_,n,d⟩,_⟩:=I.tuple h;obtain⟨its',r',⟨o',e',_,n',d'⟩,_⟩:=I.tuple h';rw[e]at e';cases e';rw[d]at d';injection d' with d1 _;have:its=its':=by simpa using congrArg Array.toList d1
 subst this;exact r.inj r'
end
noncomputable abbrev Cx.wish(X:Cx)(E:Value->Shared->Prop):Cx:={ X with xe:=E }
noncomputable abbrev Cx.nox(X:Cx):Cx:=X.wish fun _ _=>False
theorem Cx.Ok.wish{X:Cx}(ok:X.Ok)(E:Value->Shared->Prop):(X.wish E).Ok:=
 ⟨ok.mod,ok.kind,ok.glob,ok.blt,ok.above,ok.inj,ok.has,ok.cab,ok.hd,ok.frames,ok.stk,ok.exf,ok.bs,ok.bsz,ok.noex,ok.exfs,ok.funs,ok.frf⟩
theorem Cx.Ok.unwish{X:Cx}{E:Value->Shared->Prop}(ok:(X.wish E).Ok):X.Ok:=
 ⟨ok.mod,ok.kind,ok.glob,ok.blt,ok.above,ok.inj,ok.has,ok.cab,ok.hd,ok.frames,ok.stk,ok.exf,ok.bs,ok.bsz,ok.noex,ok.exfs,ok.funs,ok.frf⟩
section
variable{X:Cx}{pins:List (Addr×Obj)}{σ:St}{H:Hp}{s:Shared}{E:Value->Shared->Prop}
theorem Inv.wish(I:Inv X pins σ H s)(E:Value->Shared->Prop):Inv (X.wish E) pins σ H s:=⟨I.ok.wish E,I.os,I.bare,I.base,I.loc,I.cell,I.free,I.freeC,I.pin,I.hok,I.len⟩
theorem Inv.unwish(I:Inv (X.wish E) pins σ H s):Inv X pins σ H s:=⟨I.ok.unwish,I.os,I.bare,I.base,I.loc,I.cell,I.free,I.freeC,I.pin,I.hok,I.len⟩
theorem SP.unwish{D:Ends}{f:Flow}{s':Shared}(h:SP (X.wish E) pins D f s'):SP X pins D f s':=by
 cases f with
 | next=>obtain⟨σ',H',I,q⟩:=h;exact⟨σ',H',I.unwish,q⟩
 | brk=>obtain⟨σ',H',I,q⟩:=h;exact⟨σ',H',I.unwish,q⟩
 | cont=>obtain⟨σ',H',I,q⟩:=h;exact⟨σ',H',I.unwish,q⟩
 | ret u=>obtain⟨v,σ',H',I,r,q⟩:=h;exact⟨v,σ',H',I.unwish,r,q⟩
theorem PSs.nox{st:List Stmt}{t:TS}(h:PSs X.nox st t):PSs X st t:=fun pins s σ H D I hw=>
 wpAny_mono (h pins s σ H D (I.wish _) hw) (fun _ _ q=>q.unwish) fun _ _ z=>False.elim z
end
section
variable{X:Cx}{st:Stmt}{rest:List Stmt}{t u:TS}{e:Expr}{te:TE}{pos:Pos}
noncomputable def tNext:TS:=fun D σ H=>D.nx σ H
noncomputable def tSeq(t u:TS):TS:=fun D σ H=>t { D with nx:=u D } σ H
theorem pss_nil:PSs X [] tNext:=fun _ _ σ H _ I h=>wpAny_execs_nil ⟨σ,H,I,h⟩
theorem pss_cons(h1:PS X st t)(h2:PSs X rest u):PSs X (st::rest) (tSeq t u):=by
 intro pins s σ H D I h;refine wpAny_execs_cons (thn (h1 pins s σ H { D with nx:=u D } I h) fun f s1 q=>?_);cases f with
 | next=>
   obtain⟨σ',H',I',q⟩:=q;exact h2 pins s1 σ' H' D I' q
 | ret v=>exact q
 | brk=>exact q
 | cont=>exact q
theorem pss_one(h1:PS X st t):PSs X [st] t:=by
 intro pins s σ H D I h;refine wpAny_execs_cons (thn (h1 pins s σ H D I h) fun f s1 q=>?_);cases f with
 | next=>exact wpAny_execs_nil q
 | ret v=>exact q
 | brk=>exact q
 | cont=>exact q
theorem Inv.quiet{pins:List (Addr×Obj)}{σ:St}{H:Hp}{s:Shared}(I:Inv X pins σ H s):interactive X.env=false:=by simp[interactive,I.ok.kind]
noncomputable def tDrop(te:TE):TS:=fun D σ H=>te σ H fun _ H1=>D.nx σ H1
theorem ps_expr(he:PE X e te)(hs:swapsWith e none pos.line X.env=pure false:=by rfl):PS X (.Expr e pos) (tDrop te):=by
 intro pins s σ H D I h;exact wpAny_Expr_any (thn (he pins s σ H _ I h) fun v s1 ⟨x,H1,I1,r1,q1⟩=>⟨σ,H1,I1,q1⟩) I.quiet hs
noncomputable def tRet(te:TE):TS:=fun D σ H=>te σ H D.rt
theorem ps_ret(he:PE X e te):PS X (.Return (some e) pos) (tRet te):=by
 intro pins s σ H D I h;exact wpAny_Return_some (thn (he pins s σ H _ I h) fun v s1 ⟨x,H1,I1,r1,q1⟩=>⟨x,σ,H1,I1,r1,q1⟩)
noncomputable def tIfS(c:TT)(t u:TS):TS:=fun D σ H=>c σ H fun b H1=>if b=true then t D σ H1 else u D σ H1
theorem ps_if{c:Expr}{a b:List Stmt}{tc:TT}(hc:PT X c tc)(ha:PSs X a t)(hb:PSs X b u):PS X (.If c a b pos) (tIfS tc t u):=by
 intro pins s σ H D I h;refine wpAny_If (thn (hc pins s σ H _ I h) fun d s1 zz=>?_);obtain⟨H1,I1,q1⟩:=zz;cases d with
 | true=>exact ha pins s1 σ H1 D I1 q1
 | false=>exact hb pins s1 σ H1 D I1 q1
end
noncomputable abbrev TG:=V->St->Hp->(St->Hp->Prop)->Prop
noncomputable abbrev TGs:=List V->St->Hp->(St->Hp->Prop)->Prop
noncomputable def PG(X:Cx)(target:Expr)(t:TG):Prop:=
 ∀(pins:List (Addr×Obj)) (s:Shared) (σ:St) (H:Hp) (v:V) (u:Value) (Q:St->Hp->Prop),Inv X pins σ H s->RelV v u->t v σ H Q ->
   wpAny (model X.prog X.w) X.A (assign target X.env u) (fun _ s'=>∃ σ' H',Inv X pins σ' H' s'/\Q σ' H') X.xe s
noncomputable def PGs(X:Cx)(ts:List Expr)(t:TGs):Prop:=
 ∀(pins:List (Addr×Obj)) (s:Shared) (σ:St) (H:Hp) (vs:List V) (us:List Value) (Q:St->Hp->Prop),Inv X pins σ H s->Vals vs us->t vs σ H Q ->
   wpAny (model X.prog X.w) X.A (assignInOrder ((assignEach ts X.env).map (·.2)) us) (fun _ s'=>∃ σ' H',Inv X pins σ' H' s'/\Q σ' H') X.xe s
noncomputable abbrev TSet:=V->V->V->Hp->(Hp->Prop)->Prop
noncomputable def PSet(X:Cx)(t:TSet):Prop:=
 ∀(pins:List (Addr×Obj)) (s:Shared) (σ:St) (H:Hp) (o i v:V) (ov iv u:Value) (Q:Hp->Prop),Inv X pins σ H s->RelV o ov->RelV i iv->RelV v u->t o i v H Q ->
   wpAny (model X.prog X.w) X.A (setItem ov iv u) (fun _ s'=>∃ H',Inv X pins σ H' s'/\Q H') X.xe s
section
variable{X:Cx}{pos:Pos}
noncomputable def gName(i:Nat):TG:=fun v σ H Q=>Q (σ.set i (some v)) H
theorem pg_name{i:Nat}{x:Str}(hN:X.N.Nodup)(hi:X.N[i]?=some x)(hx:Loc X.env.scope x)(hf:X.fn x=true∨X.env.scope.names.lookup x=some .local:=by first | exact .inl rfl | exact .inr rfl | assumption):PG X (.Name x pos) (gName i):=by
 intro pins s σ H v u Q I r h;exact wpAny_assign_Name (store_ok I hN hi hx r (fun s' I'=>⟨_,H,I',h⟩) hf)
noncomputable def gNil:TGs:=fun vs σ H Q=>vs=[]/\Q σ H
noncomputable def gCons(t:TG)(u:TGs):TGs:=fun vs σ H Q=>∃ v r,vs=v::r/\t v σ H fun σ' H'=>u r σ' H' Q
theorem pgs_nil:PGs X [] gNil:=by
 intro pins s σ H vs us Q I r h;obtain⟨e,h⟩:=h;subst e;cases r;exact assignInOrder_nil ⟨σ,H,I,h⟩
theorem pgs_cons{e:Expr}{es:List Expr}{t:TG}{u:TGs}(h1:PG X e t)(h2:PGs X es u)
 (hs:(assignEach (e::es) X.env).map (·.2)=assign e X.env::(assignEach es X.env).map (·.2):=by rfl):PGs X (e::es) (gCons t u):=by
 intro pins s σ H vs us Q I r h;obtain⟨v,vr,e1,h⟩:=h;subst e1;cases r with
 | cons r rr=>
   rw[hs];refine assignInOrder_cons (thn (h1 pins s σ H _ _ _ I r h) fun _ s1 zz=>?_);obtain⟨σ1,H1,I1,q1⟩:=zz;exact h2 pins s1 σ1 H1 _ _ Q I1 rr q1
noncomputable def gTup(K:W.Frag)(n:Nat)(t:TGs):TG:=fun v σ H Q=>∃ a xs,v=.ref a/\SqT K H a xs/\xs.length=n/\t xs σ H Q
theorem pg_tup{es:List Expr}{k:Nat}{t:TGs}{n:Nat}(hc:X.calm=true)(h:PGs X es t)
 (hn:(assignEach es X.env).length=n:=by rfl) (hst:(assignEach es X.env).findIdx? (·.1)=none:=by rfl):PG X (.Tuple es k pos) (gTup X.K n t):=by
 intro pins s σ H v u Q I r hw;obtain⟨a,xs,e1,hq,hl,hw⟩:=hw;subst e1;cases r;obtain⟨its,rv,ht,hz⟩:=I.tuple hq;refine assign_Tuple_tuple (I.ok.hd hc) ht (by simp[hn,← hl,rv.length]) hst fun h' hx=>?_
 have I1:Inv X pins σ H { s with heap:=h' }:=I.kept (t':=s.toks) fun b o e=>hx b o (Nat.ne_of_lt (Heap.lt_size e)) e;exact h pins _ σ H xs _ Q I1 (by simpa using rv) hw
noncomputable def gSub(to ti:TE)(t:TSet):TG:=fun v σ H Q=>to σ H fun o H1=>ti σ H1 fun i H2=>t o i v H2 fun H3=>Q σ H3
theorem pg_sub{o i:Expr}{to ti:TE}{t:TSet}(ho:PE X o to)(hi:PE X i ti)(hs:PSet X t)
 (ha:∀ v,assign (.Subscript o i pos) X.env v=(do
  let ov ← holding [v] (eval o X.env)
  let iv ← holding [v,ov] (eval i X.env)
  standAt pos
  holding [v,ov,iv] (setItem ov iv v)
  release [v,ov,iv] []):=by intro _;rfl):PG X (.Subscript o i pos) (gSub to ti t):=by
 intro pins s σ H v u Q I r h;rw[ha];refine wpAny_bind (wpAny_holding (thn (ho pins s σ H _ I h) fun ov s1 zz=>?_));obtain⟨x,H1,I1,r1,q1⟩:=zz;refine wpAny_bind (wpAny_holding (thn (hi pins s1 σ H1 _ I1 q1) fun iv s2 zz=>?_));obtain⟨y,H2,I2,r2,q2⟩:=zz;refine wpAny_bind (wpAny_standAt (wpAny_bind (wpAny_holding (thn (hs pins s2 σ H2 x y v ov iv u _ I2 r1 r2 r q2) fun _ s3 zz=>?_))));obtain⟨H3,I3,q3⟩:=zz;exact wpAny_release ⟨σ,H3,I3,q3⟩
noncomputable def tAsg(te:TE)(g:TG):TS:=fun D σ H=>te σ H fun x H1=>g x σ H1 D.nx
theorem ps_asg{tg e:Expr}{te:TE}{g:TG}(he:PE X e te)(hg:PG X tg g)(hs:swapsWithSole [tg] e pos.line X.env=pure false:=by rfl)(hw:swappedStores [tg] e X.env=pure none:=by rfl)
 (h1:(assignEach [tg] X.env).map (·.2)=[assign tg X.env]:=by rfl):PS X (.Assign [tg] e pos) (tAsg te g):=by
 intro pins s σ H D I h;refine wpAny_Assign_stores (thn (he pins s σ H _ I h) fun v s1 ⟨x,H1,I1,r1,q1⟩=>?_) hs hw;rw[h1];exact thn (hg pins s1 σ H1 x v _ I1 r1 q1) fun _ s2 q=>q
theorem ps_set{i:Nat}{x:Str}{e:Expr}{te:TE}{pos':Pos}(hN:X.N.Nodup)(hi:X.N[i]?=some x)(hx:Loc X.env.scope x)(he:PE X e te)(hs:swapsWith e (some (.Name x pos')) pos.line X.env=pure false:=by rfl)(hf:X.fn x=true∨X.env.scope.names.lookup x=some .local:=by first | exact .inl rfl | exact .inr rfl | assumption) :
 PS X (.Assign [.Name x pos'] e pos) (tAsg te (gName i)):=by
 intro pins s σ H D I h;refine wpAny_Assign_Name (thn (he pins s σ H _ I h) fun v s1 ⟨y,H1,I1,r1,q1⟩=>?_) hs;exact store_ok I1 hN hi hx r1 (fun s2 I2=>⟨_,H1,I2,q1⟩) hf
end
section
variable{X:Cx}{pos:Pos}
end
structure It where
 go:Nat->Hp->Prop
 yld:Nat->Hp->V->Hp->Prop
 stop:Nat->Hp->Prop
noncomputable def FpOk(X:Cx)(pins:List (Addr×Obj))(H:Hp)(b:Addr):Prop:=
 H b=none/\b≠X.env.locals/\b∉X.fs/\(b∈X.ex∨X.s₀.heap.objs.size<=b)/\(∀ x c,X.env.cells.lookup x=some c->c≠b) /\ ∀ p∈X.pn++pins,p.1≠b
theorem Inv.fpOk{X:Cx}{pins:List (Addr×Obj)}{σ:St}{H H':Hp}{s:Shared}{b:Addr}(I:Inv X pins σ H s)(hb:s.heap.objs.size<=b)(hn:H' b=none):FpOk X pins H' b:=by
 refine⟨hn,Nat.ne_of_gt (Nat.lt_of_lt_of_le I.lt hb),I.nofs hb,.inr (Nat.le_trans I.sz hb),fun x c e z=>?_,fun p hp z=>?_⟩
 · obtain⟨v,q⟩:=I.cell x c e
   exact absurd (Nat.lt_of_lt_of_le q.lt (by rw[z];exact hb)) (Nat.lt_irrefl _)
 exact absurd (Nat.lt_of_lt_of_le (Heap.lt_size (I.pin p hp).1) (by rw[z];exact hb)) (Nat.lt_irrefl _)
structure Turn(P:Program)(w:World)(K:W.Frag)(tg:Expr)(J:It)(fp:List Addr)(it:Addr)(tn:Nat->Heap->Prop):Prop where
 mem:it∈fp
 obj:∀ i h,tn i h -> ∀ b∈fp,∃ o,h.get? b=some o /\ ∀ v,o.data ≠ .cell v
 keep:∀ i h h',tn i h->(∀ b∈fp,∀ o,h.get? b=some o->h'.get? b=some o)->tn i h'
 item:∀(X:Cx),X.prog=P->X.w=w->X.K=K->X.calm=true -> ∀(i:Nat) (pins:List (Addr×Obj)) (s:Shared) (σ:St) (H:Hp) (E:Value->Shared->Prop),Inv X pins σ H s->(∀ b∈fp,FpOk X pins H b)->tn i s.heap->J.go i H ->
  wpAny (model P w) X.A (pyNext (.ref it)) (fun r s1=>∃ u,r=some u /\
   wpAny (model P w) X.A (letOwnedTupleGo tg (.ref it) u) (fun _ s2=>∃ x H',Inv X pins σ H' s2/\RelV x u/\J.yld i H x H'/\tn (i+1) s2.heap /\ ∀ b∈fp,H' b=none) E s1) E s
 done:∀(X:Cx),X.prog=P->X.w=w->X.K=K->X.calm=true -> ∀(i:Nat) (pins:List (Addr×Obj)) (s:Shared) (σ:St) (H:Hp) (E:Value->Shared->Prop),Inv X pins σ H s->(∀ b∈fp,FpOk X pins H b)->tn i s.heap->J.stop i H ->
  wpAny (model P w) X.A (pyNext (.ref it)) (fun r s1=>r=none/\Inv X pins σ H s1) E s
 self:∀(A:Around) (i:Nat) (s:Shared) (Q:Value->Shared->Prop) (E:Value->Shared->Prop),tn i s.heap->Q (.ref it) s->wpAny (model P w) A (pyIter (.ref it)) Q E s
noncomputable abbrev TI:=St->Hp->(It->Hp->Prop)->Prop
noncomputable def PIE(X:Cx)(pins:List (Addr×Obj))(σ:St)(tg:Expr)(R:It->Hp->Prop)(itv:Value)(s2:Shared):Prop:=
 ∃(it:Addr) (fp:List Addr) (tn:Nat->Heap->Prop) (J:It) (H':Hp),itv=.ref it/\Inv X pins σ H' s2/\Turn X.prog X.w X.K tg J fp it tn/\tn 0 s2.heap/\(∀ b∈fp,FpOk X pins H' b)/\R J H'
noncomputable def PI(X:Cx)(tg iter:Expr)(wi:TI):Prop:=
 ∀(pins:List (Addr×Obj)) (s:Shared) (σ:St) (H:Hp) (R:It->Hp->Prop),Inv X pins σ H s->wi σ H R ->
   wpAny (model X.prog X.w) X.A (eval iter X.env) (fun v s1=>wpAny (model X.prog X.w) X.A (pyIter v) (PIE X pins σ tg R) X.xe s1) X.xe s
theorem go_of{M:Model}{A:Around}{E:Value->Shared->Prop}{s:Shared}{tg:Expr}{it:Addr}{u:Value}{o:Obj}{n:String}{vs:Array Value}{Q:Unit->Shared->Prop}(ho:s.heap.get? it=some o)(hc:o.cls=.type n)(hd:o.data=.fields vs)
 (hn:["enumerate","zip","dict_itemiterator","dict_reverseitemiterator","odict_iterator","itertools.zip_longest","itertools.pairwise"].contains n=false) (hQ:Q () s):wpAny M A (letOwnedTupleGo tg (.ref it) u) Q E s:=by
 unfold letOwnedTupleGo;cases tg <;> first
  | exact wpAny_pure hQ
  | (cases u <;> first
   | exact wpAny_pure hQ
   | (refine wpAny_bind (wpAny_load ho ?_)
      rw[hc,hd];show wpAny M A (if(["enumerate","zip","dict_itemiterator","dict_reverseitemiterator","odict_iterator","itertools.zip_longest","itertools.pairwise"].contains n && vs[0]? == some (rawInt _))=true then _ else _) Q E s;rw[if_neg (by intro h;rw[hn,Bool.false_and]at h;cases h)]
      exact wpAny_pure hQ))
noncomputable def Itl(K:W.Frag)(a:Addr):It:=
 ⟨fun i H=>∃ xs x,SqL K H a xs/\xs[i]?=some x,fun i H x H'=>H'=H /\ ∀ xs,SqL K H a xs->xs[i]?=some x,fun i H=>∃ xs,SqL K H a xs/\xs.length<=i⟩
noncomputable def Itt(K:W.Frag)(a:Addr):It:=
 ⟨fun i H=>∃ xs x,SqT K H a xs/\xs[i]?=some x,fun i H x H'=>H'=H /\ ∀ xs,SqT K H a xs->xs[i]?=some x,fun i H=>∃ xs,SqT K H a xs/\xs.length<=i⟩
noncomputable def Itr(lo:Int)(n:Nat):It:=⟨fun i _=>i < n,fun i H x H'=>H'=H/\x=.int (lo+i),fun i _=>n<=i⟩
theorem turn_list{P:Program}{w:World}{K:W.Frag}{tg:Expr}(a it:Addr):Turn P w K tg (Itl K a) [it] it (fun i h=>h.IsListIter it a i) where
 mem:=by simp
 obj:=fun i h st b hb=>by
  have e:b=it:=by simpa using hb
  subst e;obtain⟨o,e,c,d⟩:=st;exact⟨o,e,fun v z=>by rw[d]at z;cases z⟩
 keep:=fun i h h' st k=>st.at fun o e=>k it (by simp) o e
 item:=by
  intro X hP hw hK hc i pins s σ H E I hf st hg;subst hP hw hK;obtain⟨xs,x,hq,hx⟩:=hg;obtain⟨its,rv,p,hz⟩:=I.list hq;obtain⟨u,hu,ru⟩:=rv.get hx;obtain⟨f0,f1,f2,f3,f4,f5⟩:=hf it (by simp)
  refine wpAny_pyNext_list_item st p.isList (x:=u) (by simpa using hu) fun h' st' sb=>?_
  have I1:Inv X pins σ H { s with heap:=h' }:=I.turned (t':=s.toks) (fun b o hb e=>(sb.2 b hb).trans e) f0 f1 f3 f4 f5;obtain⟨o,e,c,d⟩:=id st';exact⟨u,rfl,go_of (s:={ s with heap:=h' }) e c d (by decide) ⟨x,H,I1,ru,⟨rfl,fun ys hy=>by rw[I.list_inj hy hq];exact hx⟩,st',fun b hb=>(hf b hb).1⟩⟩
 done:=by
  intro X hP hw hK hc i pins s σ H E I hf st hg;subst hP hw hK;obtain⟨xs,hq,hx⟩:=hg;obtain⟨its,rv,p,hz⟩:=I.list hq;obtain⟨f0,f1,f2,f3,f4,f5⟩:=hf it (by simp)
  have hl:=rv.length;exact wpAny_pyNext_list_end (I.ok.hd hc) st p.isList (by simp;omega) fun h' eb=>⟨rfl,I.turned (t':=s.toks) (fun b o hb e=>eb b o hb e) f0 f1 f3 f4 f5⟩
 self:=fun _ _ _ _ _ st h=>wpAny_pyIter_listiter st h
theorem turn_tuple{P:Program}{w:World}{K:W.Frag}{tg:Expr}(a it:Addr):Turn P w K tg (Itt K a) [it] it (fun i h=>h.IsTupleIter it a i) where
 mem:=by simp
 obj:=fun i h st b hb=>by
  have e:b=it:=by simpa using hb
  subst e;obtain⟨o,e,c,d⟩:=st;exact⟨o,e,fun v z=>by rw[d]at z;cases z⟩
 keep:=fun i h h' st k=>st.at fun o e=>k it (by simp) o e
 item:=by
  intro X hP hw hK hc i pins s σ H E I hf st hg;subst hP hw hK;obtain⟨xs,x,hq,hx⟩:=hg;obtain⟨its,rv,p,hz⟩:=I.tuple hq;obtain⟨u,hu,ru⟩:=rv.get hx;obtain⟨f0,f1,f2,f3,f4,f5⟩:=hf it (by simp)
  refine wpAny_pyNext_tuple_item st (show s.heap.IsTuple a its.toArray from p) (x:=u) (by simpa using hu) fun h' st' sb=>?_
  have I1:Inv X pins σ H { s with heap:=h' }:=I.turned (t':=s.toks) (fun b o hb e=>(sb.2 b hb).trans e) f0 f1 f3 f4 f5;obtain⟨o,e,c,d⟩:=id st';exact⟨u,rfl,go_of (s:={ s with heap:=h' }) e c d (by decide) ⟨x,H,I1,ru,⟨rfl,fun ys hy=>by rw[I.tuple_inj hy hq];exact hx⟩,st',fun b hb=>(hf b hb).1⟩⟩
 done:=by
  intro X hP hw hK hc i pins s σ H E I hf st hg;subst hP hw hK;obtain⟨xs,hq,hx⟩:=hg;obtain⟨its,rv,p,hz⟩:=I.tuple hq;obtain⟨f0,f1,f2,f3,f4,f5⟩:=hf it (by simp)
  have hl:=rv.length;exact wpAny_pyNext_tuple_end (I.ok.hd hc) st (show s.heap.IsTuple a its.toArray from p) (by simp;omega) fun h' eb=>⟨rfl,I.turned (t':=s.toks) (fun b o hb e=>eb b o hb e) f0 f1 f3 f4 f5⟩
 self:=fun _ _ _ _ _ st h=>wpAny_pyIter_tupleiter st h
theorem turn_range{P:Program}{w:World}{K:PySem.W.Frag}{tg:Expr}(it:Addr)(lo:Int)(n:Nat):Turn P w K tg (Itr lo n) [it] it (fun i h=>IsRangeIter h it (lo+(i:Nat)*1) ((n:Int) - (i:Nat)) 1) where
 mem:=by simp
 obj:=fun i h st b hb=>by
  have e:b=it:=by simpa using hb
  subst e;exact⟨_,st,fun v z=>by
   have z':Data.fields _=Data.cell v:=z;cases z'⟩
 keep:=fun i h h' st k=>k it (by simp) _ st
 item:=by
  intro X hP hw hK hc i pins s σ H E I hf st hg;subst hP hw hK;obtain⟨f0,f1,f2,f3,f4,f5⟩:=hf it (by simp)
  have W:=Walks.range (prog:=X.prog) (w:=X.w) (I.ok.hd hc) it lo 1 n;refine W.item i s _ _ hg st fun v h' tk hv st' kk=>?_;obtain⟨t,rfl⟩:=hv;have I1:Inv X pins σ H { s with heap:=h',toks:=tk }:=I.turned (fun b o hb e=>kk b o (by simpa using hb) e) f0 f1 f3 f4 f5
  refine⟨_,rfl,go_of (s:={ s with heap:=h',toks:=tk }) (n:="range_iterator") st' rfl rfl (by decide) ⟨.int (lo+i),H,I1,⟨t,?_⟩,⟨rfl,rfl⟩,st',fun b hb=>(hf b hb).1⟩⟩
  rw[Int.mul_one]
 done:=by
  intro X hP hw hK hc i pins s σ H E I hf st hg;subst hP hw hK;obtain⟨f0,f1,f2,f3,f4,f5⟩:=hf it (by simp)
  exact wpAny_pyNext_range_end (I.ok.hd hc) st (by have:n<=i:=hg;omega) fun h' eb=>⟨rfl,I.turned (t':=s.toks) (fun b o hb e=>eb b o hb e) f0 f1 f3 f4 f5⟩
 self:=fun _ _ _ _ _ st h=>wpAny_pyIter_rangeiter st h
end L2
namespace L2
open PySem PySem.Spec PyProof.Rows
section
variable{X:Cx}{tg:Expr}
noncomputable def iList(K:W.Frag)(tl:TE):TI:=fun σ H R=>tl σ H fun x H1=>∃ a,x=.ref a/\(∃ xs,SqL K H1 a xs)/\R (Itl K a) H1
noncomputable def iTup(K:W.Frag)(tl:TE):TI:=fun σ H R=>tl σ H fun x H1=>∃ a,x=.ref a/\(∃ xs,SqT K H1 a xs)/\R (Itt K a) H1
theorem pi_list{l:Expr}{tl:TE}(hl:PE X l tl):PI X tg l (iList X.K tl):=by
 intro pins s σ H R I h;refine thn (hl pins s σ H _ I h) fun v s1 zz=>?_;obtain⟨x,H1,I1,r1,q1⟩:=zz;obtain⟨a,e,⟨xs,hq⟩,q⟩:=q1;subst e;cases r1;obtain⟨its,rv,p,hz⟩:=I1.list hq;refine wpAny_pyIter_list p.isList ?_;refine⟨s1.heap.objs.size,[s1.heap.objs.size],_,_,H1,rfl,I1.kept (t':=s1.toks) fun b o e=>Heap.get?_push_of_some _ e,turn_list a _,⟨_,Heap.get?_push_size _ rfl,rfl,rfl⟩,fun b hb=>?_,q⟩;have e:b=s1.heap.objs.size:=by simpa using hb
 subst e;exact I1.fpOk (Nat.le_refl _) (I1.hok.fresh (Nat.le_refl _))
theorem pi_tup{l:Expr}{tl:TE}(hl:PE X l tl):PI X tg l (iTup X.K tl):=by
 intro pins s σ H R I h;refine thn (hl pins s σ H _ I h) fun v s1 zz=>?_;obtain⟨x,H1,I1,r1,q1⟩:=zz;obtain⟨a,e,⟨xs,hq⟩,q⟩:=q1;subst e;cases r1;obtain⟨its,rv,p,hz⟩:=I1.tuple hq;refine wpAny_pyIter_tuple (show s1.heap.IsTuple a its.toArray from p) ?_;refine⟨s1.heap.objs.size,[s1.heap.objs.size],_,_,H1,rfl,I1.kept (t':=s1.toks) fun b o e=>Heap.get?_push_of_some _ e,turn_tuple a _,⟨_,Heap.get?_push_size _ rfl,rfl,rfl⟩,fun b hb=>?_,q⟩;have e:b=s1.heap.objs.size:=by simpa using hb
 subst e;exact I1.fpOk (Nat.le_refl _) (I1.hok.fresh (Nat.le_refl _))
theorem range_it{pins:List (Addr×Obj)}{σ:St}{H:Hp}{s:Shared}{R:It->Hp->Prop}{E:Value->Shared->Prop}{lo hi:Int}{t u v:Tok}{tk:Nat}(I:Inv X pins σ H s)(h1:-(2 ^ 62)<=lo)(h2:lo < 2 ^ 62)(h3:-(2 ^ 62)<=hi)(h4:hi < 2 ^ 62)
 (q:R (Itr lo (hi - lo).toNat) H):wpAny (model X.prog X.w) X.A (pyIter (.ref s.heap.objs.size)) (PIE X pins σ tg R) E { s with heap:=s.heap.push { cls:=.type "range",data:=.fields #[.int lo t,.int hi u,.int 1 v] },toks:=tk }:=by
 refine wpAny_pyIter_range (IsRange.new ..) (small_one h1 h2 h3 h4) ?_;have I1:Inv X pins σ H { s with heap:=s.heap.push { cls:=.type "range",data:=.fields #[.int lo t,.int hi u,.int 1 v] },toks:=tk }:=I.kept fun b o e=>Heap.get?_push_of_some _ e;refine⟨(s.heap.push { cls:=.type "range",data:=.fields #[.int lo t,.int hi u,.int 1 v] }).objs.size,[(s.heap.push { cls:=.type "range",data:=.fields #[.int lo t,.int hi u,.int 1 v] }).objs.size],_,_,H,rfl,
  I1.kept (t':=tk) fun b o e=>Heap.get?_push_of_some _ e,turn_range _ lo (hi - lo).toNat,?_,fun b hb=>?_,q⟩
 · have e1:lo+((0:Nat):Int)*1=lo:=by simp
   have e2:(((hi - lo).toNat:Nat):Int) - ((0:Nat):Int)=Builtin.Range.rangeSize lo hi 1:=by rw[rangeSize_one];split <;> omega
   show IsRangeIter _ _ (lo+((0:Nat):Int)*1) ((((hi - lo).toNat:Nat):Int) - ((0:Nat):Int)) 1;rw[e1,e2];exact Heap.get?_push_size _ rfl
 have e:b=(s.heap.push { cls:=.type "range",data:=.fields #[.int lo t,.int hi u,.int 1 v] }).objs.size:=by simpa using hb
 subst e;exact I1.fpOk (Nat.le_refl _) (I1.hok.fresh (Nat.le_refl _))
noncomputable def iRng1(ta:TA):TI:=fun σ H R=>ta σ H fun vs H1=>∃ j:Int,vs=[.int j] /\ -(2 ^ 62)<=j/\j < 2 ^ 62/\R (Itr 0 j.toNat) H1
theorem pi_range1{a:Expr}{ta:TA}{p pos:Pos}(hg:Gl X "range")(hm:X.mg "range"=none)(ha:PA X [a] ta)(hs:starEach [a] X.env=[(false,eval a X.env)]:=by rfl):PI X tg (.Call (.Name "range" p) [a] [] pos) (iRng1 ta):=by
 intro pins s σ H R I h;refine Call_ (ld_blt I hg hm boot_range (PyProof.Rows.callWith_type1 (thn (ha pos pins s σ H _ I h) fun us s1 ⟨vs,H1,I1,r1,q1⟩=>?_) hs rfl));obtain⟨j,e,q1,q2,q⟩:=q1;subst e;cases r1 with
 | cons r rr=>
   cases rr;obtain⟨t,rfl⟩:=r;exact call_range_1 (range_it I1 (by omega) (by omega) q1 q2 (by simpa using q))
noncomputable def tFor(wi:TI)(g:TG)(tb:TS):TS:=fun D σ H=>wi σ H fun J H1=>∃ W:Nat->Nat->St->Hp->Prop,(∃ m,W 0 m σ H1) /\ ∀ i m σ H,W i m σ H ->
 (J.stop i H/\D.nx σ H)∨(J.go i H /\ ∃ N:St->Hp->Prop,(∀ σ' H',N σ' H' -> ∃ m',m' < m/\W (i+1) m' σ' H') /\ ∀ x H',J.yld i H x H'->g x σ H' fun σ2 H2=>tb { D with nx:=N,ct:=N,bk:=D.nx } σ2 H2)
noncomputable def pinsAt(fp:List Addr)(h:Heap):List (Addr×Obj):=fp.filterMap fun b=>(h.get? b).map fun o=>(b,o)
theorem mem_pinsAt{fp:List Addr}{h:Heap}{b:Addr}{o:Obj}(hb:b∈fp)(e:h.get? b=some o):(b,o)∈pinsAt fp h:=List.mem_filterMap.mpr ⟨b,hb,by rw[e];rfl⟩
theorem of_pinsAt{fp:List Addr}{h:Heap}{p:Addr×Obj}(hp:p∈pinsAt fp h):p.1∈fp/\h.get? p.1=some p.2:=by
 obtain⟨b,hb,e⟩:=List.mem_filterMap.mp hp;cases q:h.get? b with
 | none=>rw[q]at e;cases e
 | some o=>
   rw[q]at e;have e':(b,o)=p:=Option.some.inj e;subst e';exact⟨hb,q⟩
theorem Inv.pinned{pins:List (Addr×Obj)}{σ:St}{H:Hp}{s:Shared}{fp:List Addr}(I:Inv X pins σ H s)(hf:∀ b∈fp,FpOk X pins H b)(ho:∀ b∈fp,∃ o,s.heap.get? b=some o /\ ∀ v,o.data ≠ .cell v):Inv X (pins++pinsAt fp s.heap) σ H s:=
 I.pins_of fun p hp=>(List.mem_append.mp hp).elim (fun z=>I.pin p (List.mem_append_right _ z)) fun z=>by
  obtain⟨hb,e⟩:=of_pinsAt z;obtain⟨f0,f1,f2,_⟩:=hf p.1 hb;obtain⟨o,e',d⟩:=ho p.1 hb;rw[e]at e';cases e';exact⟨e,f0,f1,f2,d⟩
theorem Inv.unpinned{pins pl:List (Addr×Obj)}{σ:St}{H:Hp}{s:Shared}(I:Inv X (pins++pl) σ H s):Inv X pins σ H s:=I.pins_of fun p hp=>I.pin p (List.mem_append_right _ (List.mem_append_left _ hp))
theorem ps_for{iter:Expr}{body:List Stmt}{wi:TI}{g:TG}{tb:TS}{pos:Pos}(hp:PassesOwn (model X.prog X.w) X.A X.env X.xe)(hc:X.calm=true)(hi:PI X tg iter wi)(hg:PG X tg g)(hb:PSs X body tb)
 (hs:∀ x,foldedSetIterable iter X.env x=pure x:=by intro _;rfl):PS X (.For tg iter body [] pos) (tFor wi g tb):=by
 intro pins s σ H D I h;refine wpAny_For (thn (hi pins s σ H _ I h) fun v s1 h1=>thn h1 fun itv s2 h2=>?_) hs;obtain⟨it,fp,tn,J,H2,e,I2,T,st2,f2,W,⟨m0,w0⟩,turn⟩:=h2;subst e
 -- what stays true of the iterator's objects through the loop
 have stat:∀{H':Hp},(∀ b∈fp,H' b=none) -> ∀ b∈fp,FpOk X pins H' b:=fun hn b hb=>⟨hn b hb,(f2 b hb).2⟩;refine codeAny_forLoop_any (fun n s'=>∃ i σ' H',Inv X pins σ' H' s'/\tn i s'.heap/\(∀ b∈fp,H' b=none)/\W i n σ' H') ?_ m0 ⟨0,σ,H2,I2,st2,fun b hb=>(f2 b hb).1,w0⟩;rintro n s3 ⟨i,σ3,H3,I3,st3,fr3,w3⟩;rcases turn i n σ3 H3 w3 with ⟨stop,qn⟩ | ⟨go,N,hN,step⟩
 · refine wpAny_passesOwn hp (thn (T.done X rfl rfl rfl hc i pins s3 σ3 H3 X.xe I3 (stat fr3) st3 stop) fun r s4 zz=>?_)
   obtain⟨hr,I4⟩:=zz;subst hr;exact wpAny_execs_nil ⟨σ3,H3,I4,qn⟩
 refine wpAny_passesOwn hp (thn (T.item X rfl rfl rfl hc i pins s3 σ3 H3 X.xe I3 (stat fr3) st3 go) fun r s4 zz=>?_);obtain⟨u,hr,h4⟩:=zz;subst hr;refine wpAny_passesOwn hp (thn h4 fun _ s5 zz=>?_);obtain⟨x,H5,I5,r5,y5,st5,fr5⟩:=zz;have I5':=I5.pinned (stat fr5) (T.obj _ _ st5);refine wpAny_passesOwn hp (thn (hg _ s5 σ3 H5 x u _ I5' r5 (step x H5 y5)) fun _ s6 zz=>?_);obtain⟨σ6,H6,I6,q6⟩:=zz;refine wpAny_passesOwn hp (thn (hb _ s6 σ6 H6 _ I6 q6) fun f s7 q7=>?_);have again:∀{σ7:St}{H7:Hp},Inv X (pins++pinsAt fp s5.heap) σ7 H7 s7->N σ7 H7 -> ∃ m,m < n /\ ∃ i σ' H',Inv X pins σ' H' s7/\tn i s7.heap/\(∀ b∈fp,H' b=none)/\W i m σ' H':=fun {σ7 H7} I7 n7=>by
  obtain⟨m',hm,w7⟩:=hN σ7 H7 n7;refine⟨m',hm,i+1,σ7,H7,I7.unpinned,T.keep _ _ _ st5 fun b hb o e=>(I7.pin (b,o) (List.mem_append_right _ (List.mem_append_right _ (mem_pinsAt hb e)))).1,fun b hb=>?_,w7⟩;obtain⟨o,e,d⟩:=T.obj _ _ st5 b hb;exact(I7.pin (b,o) (List.mem_append_right _ (List.mem_append_right _ (mem_pinsAt hb e)))).2.1
 cases f with
 | next=>obtain⟨σ7,H7,I7,n7⟩:=q7;exact again I7 n7
 | cont=>obtain⟨σ7,H7,I7,n7⟩:=q7;exact again I7 n7
 | brk=>obtain⟨σ7,H7,I7,q7⟩:=q7;exact⟨σ7,H7,I7.unpinned,q7⟩
 | ret v=>obtain⟨x7,σ7,H7,I7,r7,q7⟩:=q7;exact⟨x7,σ7,H7,I7.unpinned,r7,q7⟩
end
theorem for_list{K:PySem.W.Frag}{a:Addr}{xs:List V}{g:TG}{tb:TS}{D:Ends}{σ:St}{H:Hp}(Pv:Nat->St->Hp->Prop)(h0:Pv 0 σ H)(hl:∀ i σ H,i<=xs.length->Pv i σ H->SqL K H a xs)
 (hs:∀ i x σ H,xs[i]?=some x->Pv i σ H->g x σ H fun σ2 H2=>tb { D with nx:=Pv (i+1),ct:=Pv (i+1),bk:=D.nx } σ2 H2) (hd:∀ σ H,Pv xs.length σ H->D.nx σ H) :
 ∃ W:Nat->Nat->St->Hp->Prop,(∃ m,W 0 m σ H) /\ ∀ i m σ H,W i m σ H ->
   ((Itl K a).stop i H/\D.nx σ H)∨((Itl K a).go i H /\ ∃ N:St->Hp->Prop,(∀ σ' H',N σ' H' -> ∃ m',m' < m/\W (i+1) m' σ' H') /\ ∀ x H',(Itl K a).yld i H x H'->g x σ H' fun σ2 H2=>tb { D with nx:=N,ct:=N,bk:=D.nx } σ2 H2):=by
 refine⟨fun i m σ H=>m=xs.length - i/\i<=xs.length/\Pv i σ H,⟨xs.length,by simp,Nat.zero_le _,h0⟩,?_⟩
 rintro i m σ H ⟨rfl,hi,p⟩;have q:=hl i σ H hi p;by_cases hlt:i < xs.length
 · refine .inr ⟨⟨xs,xs[i],q,by simp[hlt]⟩,Pv (i+1),fun σ' H' p'=>⟨xs.length - (i+1),by omega,rfl,hlt,p'⟩,fun x H' y=>?_⟩
   obtain⟨e,y⟩:=y;subst e;exact hs i x σ _ (y xs q) p
 have e:i=xs.length:=by omega
 subst e;exact .inl ⟨⟨xs,q,Nat.le_refl _⟩,hd σ H p⟩
theorem for_tup{K:PySem.W.Frag}{a:Addr}{xs:List V}{g:TG}{tb:TS}{D:Ends}{σ:St}{H:Hp}(Pv:Nat->St->Hp->Prop)(h0:Pv 0 σ H)(hl:∀ i σ H,i<=xs.length->Pv i σ H->SqT K H a xs)
 (hs:∀ i x σ H,xs[i]?=some x->Pv i σ H->g x σ H fun σ2 H2=>tb { D with nx:=Pv (i+1),ct:=Pv (i+1),bk:=D.nx } σ2 H2) (hd:∀ σ H,Pv xs.length σ H->D.nx σ H) :
 ∃ W:Nat->Nat->St->Hp->Prop,(∃ m,W 0 m σ H) /\ ∀ i m σ H,W i m σ H ->
   ((Itt K a).stop i H/\D.nx σ H)∨((Itt K a).go i H /\ ∃ N:St->Hp->Prop,(∀ σ' H',N σ' H' -> ∃ m',m' < m/\W (i+1) m' σ' H') /\ ∀ x H',(Itt K a).yld i H x H'->g x σ H' fun σ2 H2=>tb { D with nx:=N,ct:=N,bk:=D.nx } σ2 H2):=by
 refine⟨fun i m σ H=>m=xs.length - i/\i<=xs.length/\Pv i σ H,⟨xs.length,by simp,Nat.zero_le _,h0⟩,?_⟩
 rintro i m σ H ⟨rfl,hi,p⟩;have q:=hl i σ H hi p;by_cases hlt:i < xs.length
 · refine .inr ⟨⟨xs,xs[i],q,by simp[hlt]⟩,Pv (i+1),fun σ' H' p'=>⟨xs.length - (i+1),by omega,rfl,hlt,p'⟩,fun x H' y=>?_⟩
   obtain⟨e,y⟩:=y;subst e;exact hs i x σ _ (y xs q) p
 have e:i=xs.length:=by omega
 subst e;exact .inl ⟨⟨xs,q,Nat.le_refl _⟩,hd σ H p⟩
theorem for_range{lo:Int}{n:Nat}{g:TG}{tb:TS}{D:Ends}{σ:St}{H:Hp}(Pv:Nat->St->Hp->Prop)(h0:Pv 0 σ H)
 (hs:∀ i σ H,i < n->Pv i σ H->g (.int (lo+i)) σ H fun σ2 H2=>tb { D with nx:=Pv (i+1),ct:=Pv (i+1),bk:=D.nx } σ2 H2) (hd:∀ σ H,Pv n σ H->D.nx σ H) :
 ∃ W:Nat->Nat->St->Hp->Prop,(∃ m,W 0 m σ H) /\ ∀ i m σ H,W i m σ H ->
   ((Itr lo n).stop i H/\D.nx σ H)∨((Itr lo n).go i H /\ ∃ N:St->Hp->Prop,(∀ σ' H',N σ' H' -> ∃ m',m' < m/\W (i+1) m' σ' H') /\ ∀ x H',(Itr lo n).yld i H x H'->g x σ H' fun σ2 H2=>tb { D with nx:=N,ct:=N,bk:=D.nx } σ2 H2):=by
 refine⟨fun i m σ H=>m=n - i/\i<=n/\Pv i σ H,⟨n,by simp,Nat.zero_le _,h0⟩,?_⟩
 rintro i m σ H ⟨rfl,hi,p⟩;by_cases hlt:i < n
 · refine .inr ⟨hlt,Pv (i+1),fun σ' H' p'=>⟨n - (i+1),by omega,rfl,hlt,p'⟩,fun x H' y=>?_⟩
   obtain⟨e,y⟩:=y;subst e y;exact hs i σ _ hlt p
 have e:i=n:=by omega
 subst e;exact .inl ⟨Nat.le_refl _,hd σ H p⟩
end L2
namespace L2
open PySem PySem.Spec PyProof.Rows
noncomputable abbrev R2:=V->V->Hp->VK->Prop
noncomputable def OpR(X:Cx)(f:Value->Value->Sem Value)(r:R2):Prop:=
 ∀(pins:List (Addr×Obj)) (s:Shared) (σ:St) (H:Hp) (x y:V) (v u:Value) (Q:VK),Inv X pins σ H s->RelV x v->RelV y u->r x y H Q ->
   wpAny (model X.prog X.w) X.A (f v u) (EP X pins σ Q) X.xe s
noncomputable def UnR(X:Cx)(f:Value->Sem Value)(r:V->Hp->VK->Prop):Prop:=
 ∀(pins:List (Addr×Obj)) (s:Shared) (σ:St) (H:Hp) (x:V) (v:Value) (Q:VK),Inv X pins σ H s->RelV x v->r x H Q ->
   wpAny (model X.prog X.w) X.A (f v) (EP X pins σ Q) X.xe s
noncomputable def CallR(X:Cx)(f:Value)(r:List V->Hp->VK->Prop):Prop:=
 ∀(pins:List (Addr×Obj)) (s:Shared) (σ:St) (H:Hp) (xs:List V) (us:List Value) (Q:VK),Inv X pins σ H s->Vals xs us->r xs H Q ->
   wpAny (model X.prog X.w) X.A (call f us) (EP X pins σ Q) X.xe s
noncomputable def tOp(r:R2)(ta tb:TE):TE:=fun σ H Q=>ta σ H fun x H1=>tb σ H1 fun y H2=>r x y H2 Q
noncomputable def tUn(r:V->Hp->VK->Prop)(ta:TE):TE:=fun σ H Q=>ta σ H fun x H1=>r x H1 Q
noncomputable def rI(C:Int->Int->Prop)(g:Int->Int->V):R2:=fun x y H Q=>∃ i j,x=.int i/\y=.int j/\C i j/\Q (g i j) H
noncomputable def rI0(g:Int->Int->V):R2:=fun x y H Q=>∃ i j,x=.int i/\y=.int j/\Q (g i j) H
noncomputable def rU(g:Int->V):V->Hp->VK->Prop:=fun x H Q=>∃ i,x=.int i/\Q (g i) H
section
variable{X:Cx}{a b c:Expr}{ta tb tc:TE}{pos:Pos}
theorem binT(ha:PE X a ta)(hb:PE X b tb){pins:List (Addr×Obj)}{s:Shared}{σ:St}{H:Hp}{R:V->V->Hp->Prop}(I:Inv X pins σ H s)
 (h:ta σ H fun x H1=>tb σ H1 fun y H2=>R x y H2) {Q:Value->Shared->Prop}{f:Value->Value->Sem Value}
 (hf:∀ v u s2 x y H2,Inv X pins σ H2 s2->RelV x v->RelV y u->R x y H2->wpAny (model X.prog X.w) X.A (f v u) Q X.xe s2) :
 wpAny (model X.prog X.w) X.A (eval a X.env) (fun v s₁=>wpAny (model X.prog X.w) X.A (eval b X.env) (fun u s₂=>wpAny (model X.prog X.w) X.A (f v u) Q X.xe s₂) X.xe s₁) X.xe s:=by
 refine thn (ha pins s σ H _ I h) fun v s1 zz=>?_;obtain⟨x,H1,I1,r1,q1⟩:=zz;refine thn (hb pins s1 σ H1 _ I1 q1) fun u s2 zz=>?_;obtain⟨y,H2,I2,r2,q2⟩:=zz;exact hf v u s2 x y H2 I2 r1 r2 q2
theorem pe_op{op:Operator}{r:R2}(ho:OpR X (binaryOp op) r)(ha:PE X a ta)(hb:PE X b tb):PE X (.BinOp a op b pos) (tOp r ta tb):=by
 intro pins s σ H Q I h;exact wpAny_BinOp (binT ha hb I h fun v u s2 x y H2 I2 rx ry q=>ho pins s2 σ H2 x y v u Q I2 rx ry q)
theorem pe_un{op:UnaryOp}{r:V->Hp->VK->Prop}(ho:UnR X (unaryOp op) r)(ha:PE X a ta):PE X (.UnaryOp op a pos) (tUn r ta):=by
 intro pins s σ H Q I h;exact UnaryOp_ (thn (ha pins s σ H _ I h) fun v s1 ⟨x,H1,I1,r1,q1⟩=>ho pins s1 σ H1 x v Q I1 r1 q1)
theorem opI{f:Value->Value->Sem Value}{C:Int->Int->Prop}{g:Int->Int->Int}
 (rule:∀(i j:Int) (t u:Tok) (s:Shared) (Q:Value->Shared->Prop) (E:Value->Shared->Prop),C i j->Q (.int (g i j) s.toks) { s with toks:=s.toks+1 } -> wpAny (model X.prog X.w) X.A (f (.int i t) (.int j u)) Q E s) :
 OpR X f (rI C fun i j=>.int (g i j)):=by
 intro pins s σ H x y v u Q I rx ry h;obtain⟨i,j,rfl,rfl,hc,q⟩:=h;obtain⟨t,rfl⟩:=rx;obtain⟨t',rfl⟩:=ry;exact rule i j t t' s _ _ hc ⟨.int (g i j),H,I.tok _,⟨_,rfl⟩,q⟩
theorem opI0{f:Value->Value->Sem Value}{g:Int->Int->Int}
 (rule:∀(i j:Int) (t u:Tok) (s:Shared) (Q:Value->Shared->Prop) (E:Value->Shared->Prop),Q (.int (g i j) s.toks) { s with toks:=s.toks+1 } -> wpAny (model X.prog X.w) X.A (f (.int i t) (.int j u)) Q E s) :
 OpR X f (rI0 fun i j=>.int (g i j)):=by
 intro pins s σ H x y v u Q I rx ry h;obtain⟨i,j,rfl,rfl,q⟩:=h;obtain⟨t,rfl⟩:=rx;obtain⟨t',rfl⟩:=ry;exact rule i j t t' s _ _ ⟨.int (g i j),H,I.tok _,⟨_,rfl⟩,q⟩
theorem opB0{f:Value->Value->Sem Value}{g:Int->Int->Bool}
 (rule:∀(i j:Int) (t u:Tok) (s:Shared) (Q:Value->Shared->Prop) (E:Value->Shared->Prop),Q (.bool (g i j)) s->wpAny (model X.prog X.w) X.A (f (.int i t) (.int j u)) Q E s) :
 OpR X f (rI0 fun i j=>.bl (g i j)):=by
 intro pins s σ H x y v u Q I rx ry h;obtain⟨i,j,rfl,rfl,q⟩:=h;obtain⟨t,rfl⟩:=rx;obtain⟨t',rfl⟩:=ry;exact rule i j t t' s _ _ ⟨.bl (g i j),H,I,rfl,q⟩
noncomputable def CPow(i j:Int):Prop:=0<=j/\j<=1000000/\i.natAbs < 2 ^ 64
noncomputable def CMul(i j:Int):Prop:=(-(2 ^ 64) < i/\i < 2 ^ 64)∨(-(2 ^ 64) < j/\j < 2 ^ 64)
theorem CMul.ok{i j:Int}(h:CMul i j):IntMulOk i j:=by
 rcases h with ⟨h1,h2⟩ | ⟨h1,h2⟩
 · exact .of_left (intBits_le_64 h1 h2)
 exact .of_right (intBits_le_64 h1 h2)
theorem op_add:OpR X (binaryOp .Add) (rI0 fun i j=>.int (i+j)):=opI0 fun _ _ _ _ _ _ _ q=>add_int q
theorem op_sub:OpR X (binaryOp .Sub) (rI0 fun i j=>.int (i - j)):=opI0 fun _ _ _ _ _ _ _ q=>sub_int q
theorem op_mul:OpR X (binaryOp .Mult) (rI CMul fun i j=>.int (i*j)):=opI fun _ _ _ _ _ _ _ hc q=>mul_int q hc.ok
theorem op_mod:OpR X (binaryOp .Mod) (rI (fun _ j=>0 < j) fun i j=>.int (i % j)):=opI fun i j _ _ _ _ _ hc q=>by
 have h1:(0:Int) < j:=hc;exact mod_int' (by omega) (by rw[Int.fmod_eq_emod_of_nonneg i (by omega)];exact q)
theorem op_pow:OpR X (binaryOp .Pow) (rI CPow fun i j=>.int (i ^ j.toNat)):=opI fun _ _ _ _ _ _ _ hc q=>pow_int_small hc.1 hc.2.1 hc.2.2 q
theorem unI{f:Value->Sem Value}{g:Int->Int}
 (rule:∀(i:Int) (t:Tok) (s:Shared) (Q:Value->Shared->Prop) (E:Value->Shared->Prop),Q (.int (g i) s.toks) { s with toks:=s.toks+1 } -> wpAny (model X.prog X.w) X.A (f (.int i t)) Q E s) :
 UnR X f (rU fun i=>.int (g i)):=by
 intro pins s σ H x v Q I rx h;obtain⟨i,rfl,q⟩:=h;obtain⟨t,rfl⟩:=rx;exact rule i t s _ _ ⟨.int (g i),H,I.tok _,⟨_,rfl⟩,q⟩
theorem un_neg:UnR X (unaryOp .USub) (rU fun i=>.int (-i)):=unI fun _ _ _ _ _ q=>neg_int q
end
noncomputable def scal:V->V->Bool
 | .non,.non=>true | .non,.int _=>true | .int _,.non=>true | .non,.bl _=>true | .bl _,.non=>true | .non,.str _=>true | .str _,.non=>true
 | .int _,.int _=>true | .bl _,.bl _=>true | .str _,.str _=>true | .byt _,.byt _=>true
 | .int _,.str _=>true | .str _,.int _=>true | .bl _,.str _=>true | .str _,.bl _=>true
 | _,_=>false
noncomputable def rEq:R2:=fun x y H Q=>scal x y=true/\Q (.bl (decide (x=y))) H
noncomputable def rNe:R2:=fun x y H Q=>scal x y=true/\Q (.bl (!decide (x=y))) H
theorem dec_int{i j:Int}:decide (V.int i=V.int j)=(i == j):=by
 rw[Bool.eq_iff_iff];simp
theorem dec_bl{i j:Bool}:decide (V.bl i=V.bl j)=(i == j):=by
 rw[Bool.eq_iff_iff];simp
theorem dec_str{i j:Str}:decide (V.str i=V.str j)=(i == j):=by
 rw[Bool.eq_iff_iff];simp
theorem dec_byt{i j:Array UInt8}:decide (V.byt i=V.byt j)=(i.toList == j.toList):=by
 rw[Bool.eq_iff_iff];cases i;cases j;simp
section
variable{X:Cx}{a b c:Expr}{ta tb tc:TE}{pos:Pos}
theorem fin_bl{pins:List (Addr×Obj)}{σ:St}{H:Hp}{s:Shared}{Q:VK}{k k':Bool}(I:Inv X pins σ H s)(q:Q (.bl k) H)(e:k=k'):EP X pins σ Q (.bool k') s:=by
 subst e;exact⟨.bl k,H,I,rfl,q⟩
theorem op_eq:OpR X (compareOp .Eq) rEq:=by
 intro pins s σ H x y v u Q I rx ry h;obtain⟨hs,q⟩:=h;cases x with
 | non=>
   cases rx;cases y with
   | non=>cases ry;exact PySem.EqNone.eq_none_none (fin_bl I q (by simp))
   | bl j=>cases ry;exact PySem.EqNone.eq_none_bool (fin_bl I q (by simp))
   | int j=>obtain⟨t',rfl⟩:=ry;exact PySem.EqNone.eq_none_int (fin_bl I q (by simp))
   | str j=>obtain⟨t',rfl⟩:=ry;exact PySem.EqNone.eq_none_str (fin_bl I q (by simp))
   | _=>exact absurd (show false=true from hs) Bool.false_ne_true
 | bl i=>
   cases rx;cases y with
   | non=>cases ry;exact PySem.EqNone.eq_bool_none (fin_bl I q (by simp))
   | bl j=>cases ry;exact eq_bool (fin_bl I q dec_bl)
   | str j=>obtain⟨t',rfl⟩:=ry;exact PySem.EqMixed.eq_bool_str (fin_bl I q (by simp))
   | _=>exact absurd (show false=true from hs) Bool.false_ne_true
 | int i=>
   obtain⟨t,rfl⟩:=rx;cases y with
   | non=>cases ry;exact PySem.EqNone.eq_int_none (fin_bl I q (by simp))
   | int j=>obtain⟨t',rfl⟩:=ry;exact eq_int (fin_bl I q dec_int)
   | str j=>obtain⟨t',rfl⟩:=ry;exact PySem.EqMixed.eq_int_str (fin_bl I q (by simp))
   | _=>exact absurd (show false=true from hs) Bool.false_ne_true
 | str i=>
   obtain⟨t,rfl⟩:=rx;cases y with
   | non=>cases ry;exact PySem.EqNone.eq_str_none (fin_bl I q (by simp))
   | bl j=>cases ry;exact PySem.EqMixed.eq_str_bool (fin_bl I q (by simp))
   | int j=>obtain⟨t',rfl⟩:=ry;exact PySem.EqMixed.eq_str_int (fin_bl I q (by simp))
   | str j=>obtain⟨t',rfl⟩:=ry;exact eq_str (fin_bl I q dec_str)
   | _=>exact absurd (show false=true from hs) Bool.false_ne_true
 | byt i=>
   obtain⟨t,rfl⟩:=rx;cases y with
   | byt j=>obtain⟨t',rfl⟩:=ry;exact W.eq_bytes (fin_bl I q dec_byt)
   | _=>exact absurd (show false=true from hs) Bool.false_ne_true
 | _=>cases y <;> exact absurd (show false=true from hs) Bool.false_ne_true
theorem op_ne:OpR X (compareOp .NotEq) rNe:=by
 intro pins s σ H x y v u Q I rx ry h;obtain⟨hs,q⟩:=h;cases x with
 | non=>
   cases rx;cases y with
   | non=>cases ry;exact PySem.EqNone.ne_none_none (fin_bl I q (by simp))
   | bl j=>cases ry;exact PySem.EqNone.ne_none_bool (fin_bl I q (by simp))
   | int j=>obtain⟨t',rfl⟩:=ry;exact PySem.EqNone.ne_none_int (fin_bl I q (by simp))
   | str j=>obtain⟨t',rfl⟩:=ry;exact PySem.EqNone.ne_none_str (fin_bl I q (by simp))
   | _=>exact absurd (show false=true from hs) Bool.false_ne_true
 | bl i=>
   cases rx;cases y with
   | non=>cases ry;exact PySem.EqNone.ne_bool_none (fin_bl I q (by simp))
   | bl j=>cases ry;exact ne_bool (fin_bl I q (congrArg not dec_bl))
   | str j=>obtain⟨t',rfl⟩:=ry;exact PySem.EqMixed.ne_bool_str (fin_bl I q (by simp))
   | _=>exact absurd (show false=true from hs) Bool.false_ne_true
 | int i=>
   obtain⟨t,rfl⟩:=rx;cases y with
   | non=>cases ry;exact PySem.EqNone.ne_int_none (fin_bl I q (by simp))
   | int j=>obtain⟨t',rfl⟩:=ry;exact ne_int (fin_bl I q (congrArg not dec_int))
   | str j=>obtain⟨t',rfl⟩:=ry;exact PySem.EqMixed.ne_int_str (fin_bl I q (by simp))
   | _=>exact absurd (show false=true from hs) Bool.false_ne_true
 | str i=>
   obtain⟨t,rfl⟩:=rx;cases y with
   | non=>cases ry;exact PySem.EqNone.ne_str_none (fin_bl I q (by simp))
   | bl j=>cases ry;exact PySem.EqMixed.ne_str_bool (fin_bl I q (by simp))
   | int j=>obtain⟨t',rfl⟩:=ry;exact PySem.EqMixed.ne_str_int (fin_bl I q (by simp))
   | str j=>obtain⟨t',rfl⟩:=ry;exact ne_str (fin_bl I q (congrArg not dec_str))
   | _=>exact absurd (show false=true from hs) Bool.false_ne_true
 | byt i=>
   obtain⟨t,rfl⟩:=rx;cases y with
   | byt j=>obtain⟨t',rfl⟩:=ry;exact W.ne_bytes (fin_bl I q (congrArg not dec_byt))
   | _=>exact absurd (show false=true from hs) Bool.false_ne_true
 | _=>cases y <;> exact absurd (show false=true from hs) Bool.false_ne_true
theorem op_le:OpR X (compareOp .LtE) (rI0 fun i j=>.bl (decide (i<=j))):=opB0 fun _ _ _ _ _ _ _ q=>le_int q
theorem op_gt:OpR X (compareOp .Gt) (rI0 fun i j=>.bl (decide (j < i))):=opB0 fun _ _ _ _ _ _ _ q=>gt_int q
theorem op_ge:OpR X (compareOp .GtE) (rI0 fun i j=>.bl (decide (j<=i))):=opB0 fun _ _ _ _ _ _ _ q=>ge_int q
theorem op_isN:OpR X (compareOp .Is) (fun x y H Q=>y=.non/\Q (.bl (decide (x=.non))) H):=by
 intro pins s σ H x y v u Q I rx ry h;obtain⟨rfl,q⟩:=h;cases ry;refine is_none_gen (fin_bl I q ?_);cases x <;> first
  | (cases rx;rfl)
  | (obtain⟨t,rfl⟩:=rx;rfl)
theorem op_notN:OpR X (compareOp .IsNot) (fun x y H Q=>y=.non/\Q (.bl (!decide (x=.non))) H):=by
 intro pins s σ H x y v u Q I rx ry h;obtain⟨rfl,q⟩:=h;cases ry;refine isnot_none_gen (fin_bl I q ?_);cases x <;> first
  | (cases rx;rfl)
  | (obtain⟨t,rfl⟩:=rx;rfl)
theorem nomark(b:Expr){op:CmpOp}(h:op ≠ .In:=by decide)(h2:op ≠ .NotIn:=by decide):behindInMarks op b=false:=by
 have e1:(op == CmpOp.In)=false:=by cases op <;> first | rfl | exact absurd rfl h
 have e2:(op == CmpOp.NotIn)=false:=by cases op <;> first | rfl | exact absurd rfl h2
 cases b <;> simp[behindInMarks,e1,e2]
theorem pe_cmpR{op:CmpOp}{r:R2}(ho:OpR X (compareOp op) r)(ha:PE X a ta)(hb:PE X b tb)(hm:behindInMarks op b=false):PE X (.Compare a [op] [b] pos) (tOp r ta tb):=by
 intro pins s σ H Q I h;exact wpAny_Compare1 (binT ha hb I h fun v u s2 x y H2 I2 rx ry q=>ho pins s2 σ H2 x y v u Q I2 rx ry q) hm
noncomputable def tTest(t:TE):TT:=fun σ H Q=>t σ H fun x H'=>∃ k,x=.bl k/\Q k H'
theorem pt_cmpR{op:CmpOp}{r:R2}(ho:OpR X (compareOp op) r)(ha:PE X a ta)(hb:PE X b tb)(hm:behindInMarks op b=false):PT X (.Compare a [op] [b] pos) (tTest (tOp r ta tb)):=by
 intro pins s σ H Q I h;refine wpAny_isTrue_Compare1 (thn (ha pins s σ H _ I h) fun v s1 ⟨x,H1,I1,r1,q1⟩=>thn (hb pins s1 σ H1 _ I1 q1) fun u s2 ⟨y,H2,I2,r2,q2⟩=>
  thn (ho pins s2 σ H2 x y v u _ I2 r1 r2 q2) fun c s3 ⟨z,H3,I3,r3,k,e,q3⟩=>?_) hm
 subst e;cases r3;exact wpAny_truthy_bool ⟨H3,I3,q3⟩
noncomputable def tChain(r r':R2)(ta tb tc:TE):TE:=fun σ H Q=>ta σ H fun x H1=>tb σ H1 fun y H2=>r x y H2 fun z H3=>∃ k,z=.bl k /\
 (if k=true then tc σ H3 fun w' H4=>r' y w' H4 Q else Q (.bl false) H3)
theorem pe_chain{op op':CmpOp}{r r':R2}(ho:OpR X (compareOp op) r)(ho':OpR X (compareOp op') r')(ha:PE X a ta)(hb:PE X b tb)(hc:PE X c tc)
 (hm:lastMarks [op,op'] [b,c]=false:=by with_unfolding_all rfl):PE X (.Compare a [op,op'] [b,c] pos) (tChain r r' ta tb tc):=by
 intro pins s σ H Q I h;refine Compare_chain (thn (ha pins s σ H _ I h) fun v s1 ⟨x,H1,I1,r1,q1⟩=>chain_link (thn (hb pins s1 σ H1 _ I1 q1) fun u s2 ⟨y,H2,I2,r2,q2⟩=>
  thn (ho pins s2 σ H2 x y v u _ I2 r1 r2 q2) fun d s3 ⟨z,H3,I3,r3,k,e,q3⟩=>?_)) hm
 subst e;cases r3;refine wpAny_truthy_bool ?_;cases k with
 | false=>exact ite_ff ⟨.bl false,H3,I3,rfl,q3⟩
 | true=>exact ite_tt (chain_last (thn (hc pins s3 σ H3 _ I3 q3) fun w' s4 ⟨z',H4,I4,r4,q4⟩=>ho' pins s4 σ H4 y z' u w' Q I4 r2 r4 q4))
theorem line63:(sizeLine:Nat) < 2 ^ 63:=by rw[sizeLine_eq];decide
theorem vals1{x:V}{us:List Value}(r:Vals [x] us):∃ u,us=[u]/\RelV x u:=by
 cases r with
 | cons r1 r2=>cases r2;exact⟨_,rfl,r1⟩
theorem vals2{x y:V}{us:List Value}(r:Vals [x,y] us):∃ u w',us=[u,w']/\RelV x u/\RelV y w':=by
 cases r with
 | cons r1 r2=>
   cases r2 with
   | cons r3 r4=>cases r4;exact⟨_,_,rfl,r1,r3⟩
theorem call_int1:CallR X (.type "int") (fun xs H Q=>(∃ i,xs=[.int i]/\Q (.int i) H) ∨ ∃ k,xs=[.bl k]/\Q (.int (if k then 1 else 0)) H):=by
 intro pins s σ H xs us Q I r h;rcases h with ⟨i,rfl,q⟩ | ⟨k,rfl,q⟩
 · obtain⟨u,rfl,t,rfl⟩:=vals1 r
   exact call_int_int ⟨.int i,H,I,⟨_,rfl⟩,q⟩
 obtain⟨u,rfl,r1⟩:=vals1 r;cases r1;exact call_int_bool ⟨.int (if k then 1 else 0),H,I.tok _,⟨_,rfl⟩,q⟩
end
end L2
namespace L2
open PySem PySem.Spec PyProof.Rows
structure ObjM(h:Heap)(x dx C:Addr)(mA:Str->Option Value):Prop where
 obj:h.get? x=some (W.instObj C dx)
 ns:h.Ns1 dx mA
 ne:dx≠x
theorem lookIn_ns{h:Heap}{dx:Addr}{mA:Str->Option Value}(n:h.Ns1 dx mA):∃ od,h.get? dx=some od /\ ∀ name,W.lookIn name od=some (mA name):=by
 obtain⟨o,es,ep,ho,hd,hk,_,hm⟩:=n;refine⟨o,ho,fun name=>?_⟩;have e:=hm name;unfold nsFind findBy at e;rw[← Array.find?_toList]at e;unfold W.lookIn;rw[hd]
 dsimp only
 split
 · rename_i y q
   rw[q]at e;exact congrArg some e
 rename_i q;rw[q]at e;have a:es.toList.any (·.refKey)=false:=by
  rw[List.any_eq_false];intro y hy;obtain⟨z,t,hkey⟩:=hk y (Array.mem_toList_iff.mp hy);simp[DictEntry.refKey,hkey]
 have a':¬ es.toList.any (·.refKey)=true:=by rw[a];exact Bool.false_ne_true
 rw[if_neg a'];exact congrArg some e
theorem ObjM.look{h:Heap}{x dx C:Addr}{mA:Str->Option Value}(I:ObjM h x dx C mA):∃ od,W.InstAt h x (W.instObj C dx) C (some od) /\ ∀ name,W.lookIn name od=some (mA name):=
 let⟨od,ho,hl⟩:=lookIn_ns I.ns
 ⟨od,⟨I.obj,rfl,rfl,ho⟩,hl⟩
section
variable{prog:Program}{w:World}{A:Around}{E:Value->Shared->Prop}{s:Shared}{K:W.Frag}{x dx C f:Addr}{mA:Str->Option Value}{name:Str}{v:Value}
theorem get_map{expr:Bool}{Q:Value->Shared->Prop}(X:K.In s.heap)(I:ObjM s.heap x dx C mA)(hg:W.plainGet K C name=true)(hh:W.hasDictIn K C=true)
 (ha:W.findIn K (.ref C) name=some none) (hv:mA name=some v) (hv':W.handedIn v=true) (h:Q v { s with toks:=s.toks+1 }) :
 wpAny (model prog w) A (getAttr (.ref x) name expr) Q E s:=by
 obtain⟨od,J,hl⟩:=I.look;exact W.get_value X J (W.plainGet_of hg).1 (W.findObj_own hh ha rfl (by rw[hl,hv])) hv' h
theorem get_meth{pl:Sem Bool}{Q:Value×List Value->Shared->Prop}(X:K.In s.heap)(I:ObjM s.heap x dx C mA)(hg:W.plainGet K C name=true)
 (hf:W.findIn K (.ref C) name=some (some (.ref f))) (ht:W.isFn K (.ref f)=true) (hv:mA name=none) (h:Q (.ref f,[.ref x]) s) :
 wpAny (model prog w) A (getMethod (.ref x) name pl) Q E s:=by
 obtain⟨od,J,hl⟩:=I.look;exact W.method_fn X J (W.plainGet_of hg).1 (W.plainGet_of hg).2 hf (beq_iff_eq.mp ht) (by show(W.lookIn name od).map (·.isSome)=some false;rw[hl,hv];rfl) h
theorem set_map{ns:List Str}{Q:Unit->Shared->Prop}(X:K.In s.heap)(I:ObjM s.heap x dx C mA)
 (hs:W.findIn K (.ref C) "__setattr__"=some (some (.builtin "object.__setattr__"))) (hp:W.plainOver K C=true) (ht:W.takerIn K C name=some none) (hh:W.hasDictIn K C=true)
 (hw:PySem.Within mA ns) (hsz:ns.length<=sizeLine)
 (h:∀ h',ObjM h' x dx C (fun y=>if y=name then some v else mA y)->Heap.SameBut dx s.heap h'->Q () { s with heap:=h',toks:=s.toks+2 }) :
 wpAny (model prog w) A (setAttr (.ref x) name v) Q E s:=by
 obtain⟨od,J,hl⟩:=I.look;refine W.set_plain X J hs (W.osa_open (s:={ s with toks:=s.toks+1 }) (r:=none) X J hp ht fun b=>?_);obtain⟨cd,hc,hd'⟩:=W.any_some hh;have hx:s.heap.get? x=some ⟨.ref C,some dx,.plain,#[]⟩:=I.obj;refine wpAny_bind (wpAny_pure (wpAny_bind (wpAny_bind (wpAny_loadPart hx (wpAny_bind (W.Looks.here (s:={ s with toks:=s.toks+1 }) (W.looks_clsIn X hc) ?_))))));rw[hd'];refine wpAny_pure (a:=some dx) (wpAny_bind (wpAny_pure (wpAny_bind ?_)));refine wpAny_nsSet1 (s:={ s with toks:=s.toks+1 }) I.ns fun h' hn2 hs2=>?_;obtain⟨oD,esD,epD,hoD,hdD,hcD⟩:=hn2.count (PySem.Within.cons name v hw);refine wpAny_bind (wpAny_lookBehind hoD (by rw[hdD];exact pastItsLine_dict (Nat.le_trans hcD (by rw[List.length_cons];omega))) ?_)
 exact wpAny_pure (h _ ⟨(hs2.2 _ (Ne.symm I.ne)).trans I.obj,hn2,I.ne⟩ hs2)
theorem make_map{R:Result->Shared->Prop}{vs:List Value}{kw:List (Str×Value)}(X:K.In s.heap)(hm:W.makesIn K C=true)
 (hi:W.findIn K (.ref C) "__init__"=some (some (.ref f))) (hf:W.typeIn K (.ref f)=some (.type "function"))
 (h:codeAny (model prog w) (A.under (.builtin "type.__call__" ⟨.ref C::vs,kw⟩)) (.call (.ref f) ⟨.ref (s.heap.objs.size+1)::vs,kw⟩) (W.InitBack (s.heap.objs.size+1) R)
  { s with heap:=(s.heap.push W.emptyDict).push (W.instObj C s.heap.objs.size) }) :
 codeAny (model prog w) A (.call (.ref C) ⟨vs,kw⟩) R s:=by
 obtain⟨hh,g,d,t,os⟩:=s;exact W.make_core (W.makes_of X hm) (W.looks_findIn X hi) (fun self=>W.bind_fn X self hf) (.inl rfl) h
end
noncomputable def putF(f:Str)(v:V):List (Str×V)->List (Str×V)
 | []=>[(f,v)]
 | (g,x)::r=>if g=f then(g,v)::r else(g,x)::putF f v r
theorem lookup_putF(f g:Str)(v:V):∀ fs:List (Str×V),(putF f v fs).lookup g=if g=f then some v else fs.lookup g
 | []=>by
   show List.lookup g [(f,v)]=_;by_cases h:g=f
   · have hb:(g == f)=true:=beq_iff_eq.mpr h
     simp only[List.lookup,hb,if_pos h]
   have hb:(g == f)=false:=beq_eq_false_iff_ne.mpr h;simp only[List.lookup,hb,if_neg h]
 | (k,x)::r=>by
   have ih:=lookup_putF f g v r;rw[show putF f v ((k,x)::r)=(if k=f then(k,v)::r else(k,x)::putF f v r)from rfl];by_cases hk:k=f
   · rw[if_pos hk]
     by_cases h:g=k
     · have hb:(g == k)=true:=beq_iff_eq.mpr h
       simp only[List.lookup,hb,if_pos (h.trans hk)]
     have hb:(g == k)=false:=beq_eq_false_iff_ne.mpr h;simp only[List.lookup,hb,if_neg (fun e:g=f=>h (e.trans hk.symm))]
   rw[if_neg hk];by_cases h:g=k
   · have hb:(g == k)=true:=beq_iff_eq.mpr h
     simp only[List.lookup,hb,if_neg (fun e:g=f=>hk (h.symm.trans e))]
   have hb:(g == k)=false:=beq_eq_false_iff_ne.mpr h;simp only[List.lookup,hb];exact ih
theorem keys_putF(f:Str)(v:V):∀ fs:List (Str×V),f∈(putF f v fs).map (·.1) /\ ∀ g,g∈fs.map (·.1)->g∈(putF f v fs).map (·.1)
 | []=>⟨by simp[putF],fun g h=>by simp at h⟩
 | (k,x)::r=>by
   obtain⟨i1,i2⟩:=keys_putF f v r;rw[show putF f v ((k,x)::r)=(if k=f then(k,v)::r else(k,x)::putF f v r)from rfl];by_cases hk:k=f
   · rw[if_pos hk]
     subst hk;exact⟨by simp,fun g h=>by simpa using h⟩
   rw[if_neg hk];refine⟨?_,fun g h=>?_⟩
   · rw[List.map_cons]
     exact List.mem_cons_of_mem _ i1
   rw[List.map_cons]at h ⊢;rcases List.mem_cons.mp h with e | e
   · exact List.mem_cons.mpr (.inl e)
   exact List.mem_cons_of_mem _ (i2 g e)
theorem length_putF(f:Str)(v:V):∀ fs:List (Str×V),(putF f v fs).length<=fs.length+1
 | []=>by simp[putF]
 | (k,x)::r=>by
   have ih:=length_putF f v r;rw[show putF f v ((k,x)::r)=(if k=f then(k,v)::r else(k,x)::putF f v r)from rfl];by_cases hk:k=f
   · rw[if_pos hk,List.length_cons,List.length_cons];omega
   rw[if_neg hk,List.length_cons,List.length_cons];omega
theorem RelO.some_of{v:V}{o:Option Value}(r:RelO (some v) o):∃ u,o=some u/\RelV v u:=by
 cases o with
 | none=>exact(show False from r).elim
 | some u=>exact⟨u,rfl,r⟩
theorem RelO.none_of{o:Option Value}(r:RelO none o):o=none:=by
 cases o with
 | none=>rfl
 | some u=>exact(show False from r).elim
theorem handed_of{v:V}{u:Value}(r:RelV v u):W.handedIn u=true:=by
 cases v with
 | non=>cases (show u=Value.none from r);rfl
 | bl b=>cases (show u=Value.bool b from r);rfl
 | int i=>obtain⟨t,e⟩:=(show ∃ t,u=Value.int i t from r);cases e;rfl
 | str x=>obtain⟨t,e⟩:=(show ∃ t,u=Value.str x t from r);cases e;rfl
 | byt b=>obtain⟨t,e⟩:=(show ∃ t,u=Value.bytes b t from r);cases e;rfl
 | flt b=>obtain⟨t,e⟩:=(show ∃ t,u=Value.float b t from r);cases e;rfl
 | ref a=>cases (show u=Value.ref a from r);rfl
 | ty n=>cases (show u=Value.type n from r);rfl
section
variable{P:Program}{w:World}{H H':Hp}{h h':Heap}{a C dx:Addr}{fs fs':List (Str×V)}
theorem ins_get(hok:HOk P w H h)(e:H a=some (.ins C dx fs)):∃ mA,ObjM h a dx C mA/\(∀ f,RelO (fs.lookup f) (mA f))/\PySem.Within mA (fs.map (·.1))/\fs.length<=1000/\H dx=some (.own a):=by
 obtain⟨d,z,ne,ob,mA,n,r,q⟩:=(show ObjOk P w H h a (.ins C dx fs)from hok a _ e);exact⟨mA,⟨ob,n,ne⟩,r,q,z,d⟩
end
structure Cls(K:W.Frag)(C:Addr):Prop where
 pg:W.plainGet K C Str.empty=true
 hd:W.hasDictIn K C=true
 po:W.plainOver K C=true
 sa:W.findIn K (.ref C) "__setattr__"=some (some (.builtin "object.__setattr__"))
theorem Cls.get{K:W.Frag}{C:Addr}(c:Cls K C)(f:Str):W.plainGet K C f=true:=c.pg
noncomputable def NoAttr(K:W.Frag)(C:Addr)(f:Str):Prop:=W.findIn K (.ref C) f=some none
theorem NoAttr.taker{K:W.Frag}{C:Addr}{f:Str}(n:NoAttr K C f):W.takerIn K C f=some none:=by
 unfold W.takerIn;rw[show W.findIn K (.ref C) f=some none from n]
 rfl
structure Meth(K:W.Frag)(C:Addr)(m:Str)(f:Addr):Prop where
 at_:W.findIn K (.ref C) m=some (some (.ref f))
 fn:W.isFn K (.ref f)=true
 kp:W.keepIn K (.ref f)=true
section
variable{X:Cx}{pins:List (Addr×Obj)}{σ:St}{H:Hp}{s:Shared}{a C dx:Addr}{fs:List (Str×V)}{f:Str}{v:V}{A:Around}{E:Value->Shared->Prop}
theorem getattr_ok{b:Bool}{Q:Value->Shared->Prop}(I:Inv X pins σ H s)(e:H a=some (.ins C dx fs))(c:Cls X.K C)(n:NoAttr X.K C f)(l:fs.lookup f=some v)
 (h:∀ u s',Inv X pins σ H s'->RelV v u->Q u s'):wpAny (model X.prog X.w) A (getAttr (.ref a) f b) Q E s:=by
 obtain⟨mA,O,r,_,_,_⟩:=ins_get I.hok e;obtain⟨u,hu,ru⟩:=RelO.some_of (v:=v) (o:=mA f) (by rw[← l];exact r f)
 exact get_map I.kIn O (c.get f) c.hd n hu (handed_of ru) (h u _ (I.tok _) ru)
theorem getmeth_ok{m:Str}{g:Addr}{pl:Sem Bool}{Q:Value×List Value->Shared->Prop}(I:Inv X pins σ H s)(e:H a=some (.ins C dx fs))(c:Cls X.K C)(k:Meth X.K C m g)(l:fs.lookup m=none)
 (h:Q (.ref g,[.ref a]) s):wpAny (model X.prog X.w) A (getMethod (.ref a) m pl) Q E s:=by
 obtain⟨mA,O,r,_,_,_⟩:=ins_get I.hok e;have hn:mA m=none:=RelO.none_of (by rw[← l];exact r m)
 exact get_meth I.kIn O (c.get m) k.at_ k.fn hn h
theorem setattr_ok{y:V}{u:Value}{Q:Unit->Shared->Prop}(I:Inv X pins σ H s)(e:H a=some (.ins C dx fs))(c:Cls X.K C)(n:NoAttr X.K C f)(hl:fs.length < 1000)(ry:RelV y u)
 (h:∀ s',Inv X pins σ (upd H a (.ins C dx (putF f y fs))) s'->Q () s'):wpAny (model X.prog X.w) A (setAttr (.ref a) f u) Q E s:=by
 obtain⟨mA,O,r,wi,_,ho⟩:=ins_get I.hok e;have hz:(fs.map (·.1)).length<=sizeLine:=by rw[List.length_map,sizeLine_eq];omega
 refine set_map I.kIn O c.sa c.po n.taker c.hd wi hz fun h' O' sb=>h _ ?_;have hd:∃ o,h'.get? dx=some o:=let⟨o,_,_,e',_⟩:=O'.ns;⟨o,e'⟩;refine I.write (x:=a) (e:=dx) (by rw[e];exact True.intro) (.inr ho) (fun b q hb z=>(sb.2 b hb).trans z) hd ?_
 refine⟨by rw[upd_ne O.ne];exact ho,?_,O.ne,O'.obj,_,O'.ns,fun g=>?_,fun g hg=>?_⟩
 · have:=length_putF f y fs;omega
 · show RelO ((putF f y fs).lookup g) (if g=f then some u else mA g)
   rw[lookup_putF];by_cases q:g=f
   · rw[if_pos q,if_pos q];exact ry
   rw[if_neg q,if_neg q];exact r g
 by_cases q:g=f
 · rw[q];exact(keys_putF f y fs).1
 refine(keys_putF f y fs).2 g (wi g fun z=>hg ?_);show(if g=f then some u else mA g)=none;rw[if_neg q];exact z
theorem Inv.made(I:Inv X pins σ H s):Inv X pins σ (upd (upd H s.heap.objs.size (.own (s.heap.objs.size+1))) (s.heap.objs.size+1) (.ins C s.heap.objs.size []))
 { s with heap:=(s.heap.push W.emptyDict).push (W.instObj C s.heap.objs.size) }:=by
 have e1:(s.heap.push W.emptyDict).get? s.heap.objs.size=some W.emptyDict:=Heap.get?_push_size s.heap rfl;have e2:((s.heap.push W.emptyDict).push (W.instObj C s.heap.objs.size)).get? (s.heap.objs.size+1)=some (W.instObj C s.heap.objs.size):=by
  have:=Heap.get?_push_size (s.heap.push W.emptyDict) (o:=W.instObj C s.heap.objs.size) rfl
  rwa [Heap.size_push]at this
 have e3:(s.heap.push W.emptyDict).Ns s.heap.objs.size (fun _=>none):=⟨W.emptyDict,#[],_,e1,rfl,(fun e he=>absurd he (by simp)),fun _=>rfl⟩
 have I1:=I.laid (a:=s.heap.objs.size) (o:=.own (s.heap.objs.size+1)) (h':=s.heap.push W.emptyDict) (t':=s.toks) (fun b u q=>Heap.get?_push_of_some _ q) (Nat.le_refl _) ⟨_,e1⟩;refine I1.laid (a:=s.heap.objs.size+1) (o:=.ins C s.heap.objs.size []) (t':=s.toks) (fun b u q=>Heap.get?_push_of_some _ q) (Nat.le_of_eq (Heap.size_push _ _)) ?_;have ne:s.heap.objs.size≠s.heap.objs.size+1:=Nat.ne_of_lt (Nat.lt_succ_self _);refine⟨by rw[upd_ne ne,upd_same],Nat.zero_le _,ne,e2,fun _=>none,(Heap.Ns1.of_empty e3).at fun o q=>Heap.get?_push_of_some _ q,fun _=>True.intro,fun y hy=>absurd rfl hy⟩
theorem attr_of{prog:Program}{w:World}{env:Env}{e:Expr}{f:Str}{pos:Pos}{s:Shared}{Q:Value->Shared->Prop}(hb:attributeBase e f env (eval e env)=eval e env)
 (h:wpAny (model prog w) A (eval e env) (fun o s₁=>wpAny (model prog w) A (getAttr o f true) Q E s₁) E s):wpAny (model prog w) A (eval (.Attribute e f pos) env) Q E s:=
 Attribute_any_ h (by rw[arm_eval_Attribute,hb])
end
noncomputable def tFld(K:W.Frag)(ta:TE)(f:Str):TE:=fun σ H Q=>ta σ H fun x H1=>∃ a C dx fs v,x=.ref a/\H1 a=some (.ins C dx fs)/\Cls K C/\NoAttr K C f/\fs.lookup f=some v/\Q v H1
noncomputable def sFld(K:W.Frag)(ta tv:TE)(f:Str):TS:=fun D σ H=>tv σ H fun y H1=>ta σ H1 fun x H2=>∃ a C dx fs,x=.ref a/\H2 a=some (.ins C dx fs)/\Cls K C/\NoAttr K C f/\fs.length < 1000 /\
 D.nx σ (upd H2 a (.ins C dx (putF f y fs)))
section
variable{X:Cx}{o e value:Expr}{f:Str}{pos pos' tpos:Pos}{ta tv:TE}
theorem pe_fld(he:PE X e ta)(hb:attributeBase e f X.env (eval e X.env)=eval e X.env):PE X (.Attribute e f pos) (tFld X.K ta f):=by
 intro pins s σ H Q I h;refine attr_of hb (thn (he pins s σ H _ I h) fun u s1 zz=>?_);obtain⟨x,H1,I1,rx,a,C,dx,fs,v,ex,ea,c,n,l,q⟩:=zz;subst ex;obtain rfl:u=Value.ref a:=rx;exact getattr_ok I1 ea c n l fun u' s2 I2 ru=>⟨v,H1,I2,ru,q⟩
theorem ps_fld(ha:PE X o ta)(hv:PE X value tv)(hs:swapsWith value (some (.Attribute o f pos')) pos.line X.env=pure false):PS X (.Assign [.Attribute o f pos'] value pos) (sFld X.K ta tv f):=by
 intro pins s σ H D I h;refine plainObj_wpAny_Assign_Attribute (thn (hv pins s σ H _ I h) fun u s1 ⟨y,H1,I1,ry,q⟩=>thn (ha pins s1 σ H1 _ I1 q) fun ov s2 ⟨x,H2,I2,rx,a,C,dx,fs,ex,ea,c,n,l,q2⟩=>?_) hs;subst ex;obtain rfl:ov=Value.ref a:=rx;exact setattr_ok I2 ea c n l ry fun s3 I3=>⟨σ,_,I3,q2⟩
end
section
variable{X:Cx}{pins:List (Addr×Obj)}{σ:St}{H:Hp}{s:Shared}{A:Around}{E:Value->Shared->Prop}{Q:Value->Shared->Prop}{c:Value}{b:Bool}
inductive TyOf(K:W.Frag)(H:Hp):V->Value->Prop where
 | non:TyOf K H .non (.type "NoneType")
 | bl (x:Bool):TyOf K H (.bl x) (.type "bool")
 | int (i:Int):TyOf K H (.int i) (.type "int")
 | str (x:Str):TyOf K H (.str x) (.type "str")
 | flt (x:UInt64):TyOf K H (.flt x) (.type "float")
 | lst {a:Addr}{xs:List V} (e:H a=some (.lst xs)):TyOf K H (.ref a) (.type "list")
 | frz {a:Addr}{o:Obj}{xs:List V} (e:H a=some (.frz o (.lst xs))):TyOf K H (.ref a) (.type "list")
 | tup {a:Addr}{xs:List V} (e:H a=some (.tup xs)):TyOf K H (.ref a) (.type "tuple")
 | dK {a:Addr}{kvs:List (Key×V)} (e:H a=some (.dK kvs)):TyOf K H (.ref a) (.type "dict")
 | dT {a:Addr}{kvs:List (List Key×V)} (e:H a=some (.dT kvs)):TyOf K H (.ref a) (.type "dict")
 | ins {a C dx:Addr}{fs:List (Str×V)} (e:H a=some (.ins C dx fs)) (cl:Cls K C) (ha:W.findIn K (.ref C) "__class__"=some (some (.builtin "object.__class__")))
  (hn:W.specialIn K (.builtin "object.__class__") "__get__"=some (some (.builtin "getset_descriptor.__get__"))) (htk:W.takesIn K (.builtin "object.__class__")=some true)
  (hm:W.mroIn K C (.type "object")=some true):TyOf K H (.ref a) (.ref C)
theorem isinst_ok{x:V}{u t:Value}(I:Inv X pins σ H s)(rx:RelV x u)(ty:TyOf X.K H x t)(e:W.kitOne X.K t c=some b)(h:∀ tk,Q (.bool b) { s with toks:=tk }) :
 wpAny (model X.prog X.w) A (call (.builtin "isinstance") [u,c]) Q E s:=by
 cases ty with
 | non=>cases (show u=Value.none from rx);exact W.kia_one W.kitx_none I.kIn True.intro e (fun z=>nomatch z) h
 | bl y=>cases (show u=Value.bool y from rx);exact W.kia_one W.kitx_bool I.kIn True.intro e (fun z=>nomatch z) h
 | int i=>obtain⟨t,q⟩:=(show ∃ t,u=Value.int i t from rx);cases q;exact W.kia_one W.kitx_int I.kIn True.intro e (fun z=>nomatch z) h
 | str y=>obtain⟨t,q⟩:=(show ∃ t,u=Value.str y t from rx);cases q;exact W.kia_one W.kitx_str I.kIn True.intro e (fun z=>nomatch z) h
 | flt y=>obtain⟨t,q⟩:=(show ∃ t,u=Value.float y t from rx);cases q;exact W.kia_one W.kitx_float I.kIn True.intro e (fun z=>nomatch z) h
 | @lst a xs ea=>
   cases (show u=Value.ref a from rx);obtain⟨_,_,n,_,h1⟩:=(show ObjOk X.prog X.w H s.heap a (.lst xs)from I.hok a _ ea);exact W.kia_one W.kitx_list I.kIn ⟨_,h1,rfl⟩ e (fun z=>nomatch z) h
 | @frz a ob xs ea=>
   cases (show u=Value.ref a from rx);obtain⟨_,_,_,n,_,h1⟩:=(show ObjOk X.prog X.w H s.heap a (.frz ob (.lst xs))from I.hok a _ ea);exact W.kia_one W.kitx_list I.kIn ⟨_,h1,rfl⟩ e (fun z=>nomatch z) h
 | @tup a xs ea=>
   cases (show u=Value.ref a from rx);obtain⟨_,_,_,p⟩:=(show ObjOk X.prog X.w H s.heap a (.tup xs)from I.hok a _ ea);obtain⟨o,h1,h2,_⟩:=p;exact W.kia_one W.kitx_tuple I.kIn ⟨o,h1,h2⟩ e (fun z=>nomatch z) h
 | @dK a kvs ea=>
   cases (show u=Value.ref a from rx);obtain⟨_,_,vs,_,p⟩:=(show ObjOk X.prog X.w H s.heap a (.dK kvs)from I.hok a _ ea);obtain⟨o,es,ep,h1,h2,_⟩:=p;exact W.kia_one W.kitx_dict I.kIn ⟨o,h1,h2.1⟩ e (fun z=>nomatch z) h
 | @dT a kvs ea=>
   cases (show u=Value.ref a from rx);obtain⟨_,_,xs,_,o,es,ep,h1,h2,_⟩:=(show ObjOk X.prog X.w H s.heap a (.dT kvs)from I.hok a _ ea);exact W.kia_one W.kitx_dict I.kIn ⟨o,h1,h2.1⟩ e (fun z=>nomatch z) h
 | @ins a C dx fs ea cl ha hn htk hm=>
   cases (show u=Value.ref a from rx);obtain⟨mA,O,_⟩:=ins_get I.hok ea;obtain⟨od,J,_⟩:=O.look;exact W.kia_one (W.kitx_own (cl.get _) cl.hd ha hn htk hm) I.kIn J e (fun z=>nomatch z) h
end
end L2
namespace L2
open PySem PySem.Spec PyProof.Rows
structure Room(k:Nat)(A:Around):Prop where
 hd:A.handled=none
 dp:A.depth+3*k+5 < recursionLimit
 un:A.units+16*k+200 < cLine
theorem Room.mono{j k:Nat}{A:Around}(r:Room k A)(h:j<=k):Room j A:=⟨r.hd,by have:=r.dp;omega,by have:=r.un;omega⟩
theorem Room.up{j k:Nat}{A:Around}(r:Room k A)(h:j<=k:=by first | decide | omega):Room j A:=r.mono h
theorem Room.deeper{k:Nat}{A:Around}(r:Room (k+1) A)(env:Env):Room k (A.deeper env):=
 ⟨r.hd,by have:=r.dp;show A.depth+1+3*k+5 < _;omega,by have:=r.un;show A.units+3+16*k+200 < _;omega⟩
theorem make_depth{A:Around}{C:Addr}{us:List Value}{kw:List (Str×Value)}:(A.under (.builtin "type.__call__" ⟨.ref C::us,kw⟩)).depth=A.depth+1:=by
 first | rfl | simp[Around.under,Code.weight,Code.isCreation,Code.isGuard,Code.isCaller,Code.frames,Code.isFrame,guardIds]
theorem make_units{A:Around}{C:Addr}{us:List Value}{kw:List (Str×Value)}:(A.under (.builtin "type.__call__" ⟨.ref C::us,kw⟩)).units=A.units+1:=by
 first | rfl | simp[Around.under,Code.cUnits,Code.frames,Code.isFrame]
theorem Room.make{k:Nat}{A:Around}(r:Room (k+1) A)(C:Addr)(us:List Value)(kw:List (Str×Value)):Room k (A.under (.builtin "type.__call__" ⟨.ref C::us,kw⟩)):=
 ⟨r.hd,by have:=r.dp;rw[make_depth];omega,by have:=r.un;rw[make_units];omega⟩
theorem Room.depth{k:Nat}{A:Around}(r:Room k A):A.depth < recursionLimit:=by have:=r.dp;omega
theorem Room.units{k:Nat}{A:Around}(r:Room k A):A.units+64 < cLine:=by have:=r.un;omega
noncomputable def tNil:TA:=fun _ H Q=>Q [] H
noncomputable def tCons(ta:TE)(tr:TA):TA:=fun σ H Q=>ta σ H fun x H1=>tr σ H1 fun xs H2=>Q (x::xs) H2
section
variable{X:Cx}{e:Expr}{es:List Expr}{te:TE}{t:TA}{pos:Pos}
theorem pa_nil:PA X [] tNil:=fun _ _ _ _ H Q I h=>Calls.spliced_nil ⟨[],H,I,.nil,h⟩
theorem pa_cons(ha:PE X e te)(hr:PA X es t)(hs:starEach (e::es) X.env=(false,eval e X.env)::starEach es X.env:=by rfl):PA X (e::es) (tCons te t):=by
 intro pos pins s σ H Q I h;rw[hs];show wpAny _ _ (spliced ((false,eval e X.env)::backTo pos (starEach es X.env))) _ _ s;refine Calls.spliced_cons (thn (ha pins s σ H _ I h) fun u s1 zz=>?_);obtain⟨x,H1,I1,r1,q1⟩:=zz;exact thn (hr pos pins s1 σ H1 _ I1 q1) fun us s2 ⟨xs,H2,I2,r2,q2⟩=>⟨x::xs,H2,I2,.cons r1 r2,q2⟩
noncomputable def tTup(t:TA):TE:=fun σ H Q=>t σ H fun xs H1=>xs.length<=sizeLine /\ ∀ p,H1 p=none->Q (.ref p) (upd H1 p (.tup xs))
noncomputable def tLst(t:TA):TE:=fun σ H Q=>t σ H fun xs H1=>xs.length<=sizeLine /\ ∀ p,H1 p=none->Q (.ref p) (upd H1 p (.lst xs))
theorem pe_tup{x1}(h:PA X es t):PE X (.Tuple es x1 pos) (tTup t):=by
 intro pins s σ H Q I hq;refine wpAny_Tuple_spliced (thn (h pos pins s σ H _ I hq) fun us s1 ⟨xs,H1,I1,r,z,q⟩=>⟨by rw[← r.length];exact z,?_⟩)
 have hf:H1 s1.heap.objs.size=none:=I1.hok.fresh (Nat.le_refl _);refine⟨.ref s1.heap.objs.size,upd H1 s1.heap.objs.size (.tup xs),I1.laid (t':=s1.toks) (fun b u e=>Heap.get?_push_of_some _ e) (Nat.le_refl _) ?_,rfl,q _ hf⟩;exact⟨z,us,r,⟨_,Heap.get?_push_size _ rfl,rfl,_,rfl⟩⟩
theorem pe_lst(h:PA X es t):PE X (.List es pos) (tLst t):=by
 intro pins s σ H Q I hq;refine wpAny_List_spliced (thn (h pos pins s σ H _ I hq) fun us s1 ⟨xs,H1,I1,r,z,q⟩=>⟨by rw[← r.length];exact z,?_⟩)
 have hf:H1 s1.heap.objs.size=none:=I1.hok.fresh (Nat.le_refl _);refine⟨.ref s1.heap.objs.size,upd H1 s1.heap.objs.size (.lst xs),I1.laid (t':=s1.toks) (fun b u e=>Heap.get?_push_of_some _ e) (Nat.le_refl _) ?_,rfl,q _ hf⟩;exact⟨z,us,0,r,Heap.get?_push_size _ rfl⟩
end
noncomputable abbrev Sp:=List V->Hp->VK->XK->Prop
noncomputable abbrev CXT:=List Env->Hp->Shared->XK->Value->Shared->Prop
structure Env0(P:Program)(w:World)(K:W.Frag)(mg:Str->Option Value)(base:Heap)(A:Around)(outer:List Env)(s:Shared)(H:Hp):Prop where
 frames:A.frames=some outer
 mod:Mod K mg base
 bs:∀ b o,base.get? b=some o->s.heap.get? b=some o/\H b=none
 bsz:base.objs.size<=s.heap.objs.size
 funs:s.heap.FunFrames base outer
 frf:∀ b∈frs outer,H b=none
 hok:HOk P w H s.heap
 bare:AllBare s.gens
noncomputable def CE(outer:List Env)(P:Program)(w:World)(H:Hp)(s:Shared)(Q:VK)(u:Value)(s':Shared):Prop:=
 ∃ v H',s'.os=s.os/\AllBare s'.gens/\Un (frs outer) [] H H' s.heap s'.heap/\HOk P w H' s'.heap/\RelV v u/\Q v H'
noncomputable def CR(CX:CXT)(outer:List Env)(P:Program)(w:World)(H:Hp)(s:Shared)(Q:VK)(E:XK)(r:Result)(s':Shared):Prop:=
 match r with
 | .ok (.ret u)=>CE outer P w H s Q u s'
 | .ok _=>False
 | .error e=>CX outer H s E e s'
structure FnOk(P:Program)(w:World)(K:W.Frag)(mg:Str->Option Value)(base:Heap)(CX:CXT)(k:Nat)(f:Addr)(fd:FuncData)(ps:List Str)(sp:Sp):Prop where
 len:∀ vs H Q E,sp vs H Q E->vs.length=ps.length
 run:∀(A:Around) (outer:List Env) (s:Shared) (H:Hp) (args:Args) (us:List Value) (vs:List V) (Q:VK) (E:XK),Room k A->Env0 P w K mg base A outer s H->BindsTo s fd args (ps.zip us)->Vals vs us->sp vs H Q E ->
  codeAny (model P w) A (.call (.ref f) args) (CR CX outer P w H s Q E) s
theorem Env0.make{P:Program}{w:World}{K:W.Frag}{mg:Str->Option Value}{base:Heap}{A:Around}{outer:List Env}{s:Shared}{H:Hp}(e:Env0 P w K mg base A outer s H)(C:Addr)(us:List Value)(kw:List (Str×Value)) :
 Env0 P w K mg base (A.under (.builtin "type.__call__" ⟨.ref C::us,kw⟩)) outer s H:=⟨by first | exact e.frames | (simpa [Around.under,Code.envs,Code.isFrame,pushEnvs] using e.frames),e.mod,e.bs,e.bsz,e.funs,e.frf,e.hok,e.bare⟩
section
variable{X:Cx}{pins:List (Addr×Obj)}{σ:St}{H:Hp}{s s':Shared}
theorem Inv.env0(I:Inv X pins σ H s):Env0 X.prog X.w X.K X.mg X.base X.A X.stack s H:=
 ⟨I.ok.frames,I.ok.mod,I.bs,Nat.le_trans I.ok.bsz I.sz,I.stack,I.stkFree,I.hok,I.bare⟩
theorem Inv.after{Q:VK}{u:Value}(I:Inv X pins σ H s)(h:CE X.stack X.prog X.w H s Q u s'):EP X pins σ Q u s':=by
 obtain⟨v,H',os,bare,un,hok,r,q⟩:=h;obtain⟨hh,g,d,t,os'⟩:=s';obtain rfl:os'=s.os:=os;exact⟨v,H',I.call (h':=hh) (g':=g) (d':=d) (t':=t) (ch:=[]) un hok bare (fun b z=>absurd z (by simp)),r,q⟩
end
noncomputable def tCall(sp:Sp)(dvs:List V)(E:XK)(t:TA):TE:=fun σ H Q=>t σ H fun vs H1=>sp (vs++dvs) H1 Q E
noncomputable def tMeth(C:Addr)(m:Str)(sp:Sp)(dvs:List V)(E:XK)(ta:TE)(t:TA):TE:=fun σ H Q=>ta σ H fun x H1=>∃ a dx fs,x=.ref a/\H1 a=some (.ins C dx fs)/\fs.lookup m=none /\
 t σ H1 fun vs H2=>sp (x::(vs++dvs)) H2 Q E
noncomputable def tMake(C:Addr)(sp:Sp)(dvs:List V)(E:XK)(t:TA):TE:=fun σ H Q=>t σ H fun vs H1=>∀ x dx,H1 x=none->H1 dx=none->dx≠x ->
 sp (.ref x::(vs++dvs)) (upd (upd H1 dx (.own x)) x (.ins C dx [])) (fun v H2=>v=.non/\Q (.ref x) H2) E
noncomputable def Binds(K:W.Frag)(fd:FuncData)(ps:List Str)(ds:List Value):Prop:=
 ∀(s:Shared) (us:List Value),K.In s.heap->(us++ds).length=ps.length->BindsTo s fd ⟨us,[]⟩ (ps.zip (us++ds))
theorem Binds.all{K:W.Frag}{fd:FuncData}{ps:List Str}(h:∀ us:List Value,us.length=ps.length->bindArgs fd ⟨us,[]⟩=pure (ps.zip us)):Binds K fd ps []:=fun s us _ hl=>by
 rw[List.append_nil]at hl ⊢;exact .of_eq (h us hl)
noncomputable def Passes(CX:CXT)(X:Cx)(E:XK):Prop:=∀(pins:List (Addr×Obj)) (σ:St) (H:Hp) (s:Shared) (e:Value) (s':Shared),Inv X pins σ H s->CX X.stack H s E e s'->X.xe e s'
section
variable{X:Cx}{CX:CXT}{k:Nat}{f C:Addr}{fd:FuncData}{ps:List Str}{sp:Sp}{dvs:List V}{ds:List Value}{E:XK}{x m:Str}{p pos apos:Pos}{e o:Expr}{es:List Expr}{ta:TE}{t:TA}
theorem run_fn{pins:List (Addr×Obj)}{σ:St}{H:Hp}{s:Shared}{Q:VK}{us:List Value}{vs:List V}(F:FnOk X.prog X.w X.K X.mg X.base CX k f fd ps sp)(hr:Room k X.A)(hb:Binds X.K fd ps ds)(hd:Vals dvs ds)(hx:Passes CX X E)
 (I:Inv X pins σ H s) (r:Vals vs us) (h:sp (vs++dvs) H Q E):wpAny (model X.prog X.w) X.A (call (.ref f) us) (EP X pins σ Q) X.xe s:=by
 have r2:Vals (vs++dvs) (us++ds):=r.append hd;have hl:(us++ds).length=ps.length:=by rw[← r2.length];exact F.len _ _ _ _ h
 refine wpAny_call (codeAny_mono (F.run X.A X.stack s H ⟨us,[]⟩ (us++ds) (vs++dvs) Q E hr I.env0 (hb s us I.kIn hl) r2 h) fun r s' hq=>?_);cases r with
 | error e=>exact hx pins σ H s e s' I hq
 | ok fl=>
   cases fl with
   | ret u=>exact I.after hq
   | next=>exact False.elim hq
   | brk=>exact False.elim hq
   | cont=>exact False.elim hq
theorem pe_call(F:FnOk X.prog X.w X.K X.mg X.base CX k f fd ps sp)(hr:Room k X.A)(hg:Gl X x)(hm:X.mg x=some (.ref f))(hk:W.keepIn X.K (.ref f)=true)(hb:Binds X.K fd ps ds)(hd:Vals dvs ds)(hx:Passes CX X E)
 (ha:PA X (e::es) t) (hdb:(x == ("__debug__":Str))=false:=by decide) (he:starEach (e::es) X.env=(false,eval e X.env)::starEach es X.env:=by rfl) (hpl:(backTo pos (starEach es X.env)).any (·.1)=false:=by rfl) :
 PE X (.Call (.Name x p) (e::es) [] pos) (tCall sp dvs E t):=by
 intro pins s σ H Q I h;refine wpAny_Call_Name_kw (ld_glob I hg hm ?_ hdb);refine W.callWith_K (h₀:=X.base) I.ok.mod.kin hk (thn (ha pos pins s σ H _ I h) fun us s1 ⟨vs,H1,I1,r,q⟩=>⟨I1.kIn,?_⟩) he hpl;exact run_fn F hr hb hd hx I1 r q
theorem pe_meth{pl:Sem Bool}(he:PE X o ta)(c:Cls X.K C)(hm:Meth X.K C m f)(F:FnOk X.prog X.w X.K X.mg X.base CX k f fd ps sp)(hr:Room k X.A)(hb:Binds X.K fd ps ds)(hd:Vals dvs ds)(hx:Passes CX X E)(ha:PA X (e::es) t)
 (hst:starEach (e::es) X.env=(false,eval e X.env)::starEach es X.env:=by rfl) (hpl:(backTo pos (starEach es X.env)).any (·.1)=false:=by rfl)
 (ht:eval (.Call (.Attribute o m apos) (e::es) [] pos) X.env=(do
  let ov ← eval o X.env
  standAt apos.atName
  let(f,first) ← holding [ov] (getMethod ov m pl)
  callWith pos f first (backTo pos (starEach (e::es) X.env)) (backToKw pos (keywordEach [] X.env))):=by rfl) :
 PE X (.Call (.Attribute o m apos) (e::es) [] pos) (tMeth C m sp dvs E ta t):=by
 intro pins s σ H Q I h;refine W.methodCall_KW (pl:=pl) (thn (he pins s σ H _ I h) fun u s1 ⟨x,H1,I1,rx,a,dx,fs,ex,ea,l,q⟩=>?_) ht;subst ex;obtain rfl:u=Value.ref a:=rx;refine getmeth_ok I1 ea c hm l ?_;refine W.callWith_K (first:=[.ref a]) (h₀:=X.base) I.ok.mod.kin hm.kp (thn (ha pos pins s1 σ H1 _ I1 q) fun us s2 ⟨vs,H2,I2,r,q2⟩=>⟨I2.kIn,?_⟩) hst hpl;exact run_fn (us:=.ref a::us) (vs:=.ref a::vs) F hr hb hd hx I2 (.cons rfl r) q2
structure Mk(K:W.Frag)(C f:Addr):Prop where
 makes:W.makesIn K C=true
 init:W.findIn K (.ref C) "__init__"=some (some (.ref f))
 fn:W.isFn K (.ref f)=true
 kp:W.keepIn K (.ref C)=true
theorem run_make{pins:List (Addr×Obj)}{σ:St}{H:Hp}{s:Shared}{Q:VK}{us:List Value}{vs:List V}(M:Mk X.K C f)(F:FnOk X.prog X.w X.K X.mg X.base CX k f fd ps sp)(hr:Room (k+1) X.A)(hb:Binds X.K fd ps ds)(hd:Vals dvs ds)
 (hx:Passes CX X E) (I:Inv X pins σ H s) (r:Vals vs us)
 (h:∀ x dx,H x=none->H dx=none->dx≠x->sp (.ref x::(vs++dvs)) (upd (upd H dx (.own x)) x (.ins C dx [])) (fun v H2=>v=.non/\Q (.ref x) H2) E) :
 wpAny (model X.prog X.w) X.A (call (.ref C) us) (EP X pins σ Q) X.xe s:=by
 have hq:=h (s.heap.objs.size+1) s.heap.objs.size (I.hok.fresh (Nat.le_succ _)) (I.hok.fresh (Nat.le_refl _)) (Nat.ne_of_lt (Nat.lt_succ_self _));have I2:=Inv.made (C:=C) I;have r2:Vals (V.ref (s.heap.objs.size+1)::(vs++dvs)) (Value.ref (s.heap.objs.size+1)::(us++ds)):=.cons rfl (r.append hd);have hl:(Value.ref (s.heap.objs.size+1)::us++ds).length=ps.length:=by
  have e:=r2.length;rw[F.len _ _ _ _ hq]at e;exact e.symm
 refine wpAny_call (make_map (f:=f) I.kIn M.makes M.init (beq_iff_eq.mp M.fn) (codeAny_mono (F.run _ X.stack _ _ ⟨Value.ref (s.heap.objs.size+1)::us,[]⟩ (Value.ref (s.heap.objs.size+1)::(us++ds)) _ _ E (hr.make C us [])
  (I2.env0.make C us []) (hb _ (Value.ref (s.heap.objs.size+1)::us) I2.kIn hl) r2 hq) fun r s' hq'=>?_))
 cases r with
 | error e=>exact hx pins σ _ _ e s' I2 hq'
 | ok fl=>
   cases fl with
   | ret u=>
     obtain⟨v,H',I3,rv,ev,q3⟩:=I2.after hq';subst ev;exact⟨rv,⟨V.ref (s.heap.objs.size+1),H',I3,rfl,q3⟩⟩
   | next=>exact False.elim hq'
   | brk=>exact False.elim hq'
   | cont=>exact False.elim hq'
theorem pe_make0(M:Mk X.K C f)(F:FnOk X.prog X.w X.K X.mg X.base CX k f fd ps sp)(hr:Room (k+1) X.A)(hg:Gl X x)(hm:X.mg x=some (.ref C))(hb:Binds X.K fd ps ds)(hd:Vals dvs ds)(hx:Passes CX X E)
 (hdb:(x == ("__debug__":Str))=false:=by decide):PE X (.Call (.Name x p) [] [] pos) (tMake C sp dvs E tNil):=by
 intro pins s σ H Q I h;refine wpAny_Call_Name_kw (ld_glob I hg hm ?_ hdb);exact W.callWith_K0 I.kIn M.kp (run_make (us:=[]) M F hr hb hd hx I .nil h)
end
section
variable{X:Cx}{CX:CXT}{k:Nat}{f C:Addr}{fd:FuncData}{ps ks:List Str}{sp:Sp}{E:XK}{x m:Str}{p pos apos kpos:Pos}{e o:Expr}{es:List Expr}{kws:List Keyword}{te ta:TE}{t tk:TA}{nm:Option Str}
variable{g:List Value->List Value->List Value}{gV:List V->List V->List V}
end
structure FnScope(N P:List Str)(sc:Scope):Prop where
 kind:sc.kind=.function
 co:sc.isCoroutine=false
 gen:sc.isGenerator=false
 nd:N.Nodup
 pre:N.take P.length=P
 par:∀ x∈P,sc.names.lookup x=some .local∨sc.names.lookup x=some .cell
 nofree:∀ y∈sc.names,y.2 ≠ .free
theorem bindL_out{kindOf:Str->Option NameKind}{x:Str}:∀{binds:List (Str×Value)}{m:Str->Option Value},(∀ v,(x,v)∉binds)->bindL kindOf binds m x=m x
 | [],_,_=>rfl
 | (n,v)::r,m,h=>by
   unfold bindL;rw[bindL_out fun w hw=>h w (List.mem_cons_of_mem _ hw)];split
   · have:x≠n:=by rintro rfl;exact h v List.mem_cons_self
     simp[this]
   rfl
theorem bindC_out{kindOf:Str->Option NameKind}{x:Str}:∀{binds:List (Str×Value)}{m:Str->Option Value},(∀ v,(x,v)∉binds)->bindC kindOf binds m x=m x
 | [],_,_=>rfl
 | (n,v)::r,m,h=>by
   unfold bindC;rw[bindC_out fun w hw=>h w (List.mem_cons_of_mem _ hw)];split
   · rfl
   have:x≠n:=by rintro rfl;exact h v List.mem_cons_self
   simp[this]
theorem bindL_get{kindOf:Str->Option NameKind}{x:Str}{v:Value}:∀{P:List Str}{vs:List Value}{i:Nat}{m:Str->Option Value},P.Nodup->P[i]?=some x->vs[i]?=some v->kindOf x=some .local ->
 bindL kindOf (P.zip vs) m x=some v
 | [],_,_,_,_,h,_,_=>by simp at h
 | _::_,[],_,_,_,_,h,_=>by simp at h
 | p::P,w::vs,0,m,nd,h1,h2,hk=>by
   simp at h1 h2;subst h1;subst h2;show bindL kindOf ((p,w)::P.zip vs) m p=_;unfold bindL;rw[bindL_out fun v hv=>(List.nodup_cons.mp nd).1 (List.of_mem_zip hv).1,if_pos hk];simp
 | p::P,w::vs,i+1,m,nd,h1,h2,hk=>by
   show bindL kindOf ((p,w)::P.zip vs) m x=_;unfold bindL;exact bindL_get (i:=i) (List.nodup_cons.mp nd).2 (by simpa using h1) (by simpa using h2) hk
theorem bindC_get{kindOf:Str->Option NameKind}{x:Str}{v:Value}:∀{P:List Str}{vs:List Value}{i:Nat}{m:Str->Option Value},P.Nodup->P[i]?=some x->vs[i]?=some v->kindOf x≠some .local ->
 bindC kindOf (P.zip vs) m x=some v
 | [],_,_,_,_,h,_,_=>by simp at h
 | _::_,[],_,_,_,_,h,_=>by simp at h
 | p::P,w::vs,0,m,nd,h1,h2,hk=>by
   simp at h1 h2;subst h1;subst h2;show bindC kindOf ((p,w)::P.zip vs) m p=_;unfold bindC;rw[bindC_out fun v hv=>(List.nodup_cons.mp nd).1 (List.of_mem_zip hv).1,if_neg hk];simp
 | p::P,w::vs,i+1,m,nd,h1,h2,hk=>by
   show bindC kindOf ((p,w)::P.zip vs) m x=_;unfold bindC;exact bindC_get (i:=i) (List.nodup_cons.mp nd).2 (by simpa using h1) (by simpa using h2) hk
noncomputable def start(N:List Str)(vs:List V):St:=vs.map some++List.replicate (N.length - vs.length) none
noncomputable def cxOf(CX:CXT)(P:Program)(w:World)(K:W.Frag)(mg:Str->Option Value)(base:Heap)(N:List Str)(qual:Str)(scope:Scope)(f:Addr)(cd:Value)(A:Around)(outer:List Env)(s:Shared)(H:Hp)(E:XK):Cx where
 prog:=P
 w:=w
 K:=K
 mg:=mg
 base:=base
 A:=A.deeper (envOfC qual scope s.heap.objs.size f cd)
 N:=N
 s₀:=s
 H₀:=H
 env:=envOfC qual scope s.heap.objs.size f cd
 outer:=outer
 stack:=envOfC qual scope s.heap.objs.size f cd::outer
 ex:=[]
 calm:=true
 fn:=fun _=>true
 pn:=[]
 xe:=fun e s'=>wpAny (model P w) (A.deeper (envOfC qual scope s.heap.objs.size f cd)) (leaving (envOfC qual scope s.heap.objs.size f cd) e) (fun _ s''=>CX outer H s E e s'') (fun e' s''=>CX outer H s E e' s'') s'
theorem cell_has{sc:Scope}{n:Nat}{x:Str}(h:sc.names.lookup x=some .cell):∃ c,(cellsFrom n sc.names []).lookup x=some c:=by
 have q:=W.cellsFrom_some sc.names n [] (.inl h);exact Option.isSome_iff_exists.mp q
theorem inv_start{CX:CXT}{P:Program}{w:World}{K:W.Frag}{mg:Str->Option Value}{base:Heap}{N ps:List Str}{qual:Str}{scope:Scope}{f:Addr}{cd:Value}{A:Around}{outer:List Env}{s s1:Shared}{H:Hp}{E:XK}{us:List Value}{vs:List V}
 (S:FnScope N ps scope) (hd:A.handled=none) (e0:Env0 P w K mg base A outer s H) (hl:vs.length=ps.length) (r:Vals vs us)
 (x:InCallC s s.heap.objs.size (bindL (envOfC qual scope s.heap.objs.size f cd).kindOf (ps.zip us) fun _=>none) (cellsFrom (s.heap.objs.size+1) scope.names []) (bindC (envOfC qual scope s.heap.objs.size f cd).kindOf (ps.zip us) fun _=>none) s1) :
 Inv (cxOf CX P w K mg base N qual scope f cd A outer s H E) [] (start N vs) H s1:=by
 have hpl:ps.length<=N.length:=by have:=congrArg List.length S.pre;rw[List.length_take]at this;omega
 obtain⟨h1,tk,rfl,hk⟩:=x.done;have noA:∀ b:Addr,b∉(cxOf CX P w K mg base N qual scope f cd A outer s H E).ex:=fun b z=>absurd (show b∈([]:List Addr)from z) (by simp)
 refine⟨⟨e0.mod,S.kind,rfl,rfl,Nat.le_refl _,fun y z c h1 h2=>?_,fun y hy=>?_,fun y c _ h=>?_,fun _=>hd,Around.frames_deeper e0.frames,.inr ⟨rfl,rfl⟩,fun b z=>absurd z (noA b),e0.bs,e0.bsz,fun b _ _=>noA b,fun b z=>absurd z (noA b),e0.funs,e0.frf⟩,
  rfl,e0.bare,Un.kept hk,⟨_,x.toInCall.ns,fun i y v h1 h2 h3=>?_⟩,fun y c h=>⟨_,x.cell y c h⟩,e0.hok.fresh (Nat.le_refl _),fun y c h=>?_,fun p hp=>absurd (show p∈([]:List (Addr×Obj))from hp) (by simp),e0.hok.kept hk,?_⟩
 · exact name_of_addr x.apart (PySem.mem_of_lookup h1) (PySem.mem_of_lookup h2)
 · have hy:scope.names.lookup y=some .cell∨scope.names.lookup y=some .free:=hy
   rcases hy with hy | hy
   · exact cell_has hy
   exact absurd rfl (S.nofree _ (PySem.mem_of_lookup hy))
 · exact Nat.le_of_lt (x.above y c (PySem.mem_of_lookup h))
 · have hi:i < vs.length:=by
    unfold start at h2;by_cases hi:i < vs.length
    · exact hi
    rw[List.getElem?_append_right (by simpa using hi)]at h2
    rw[List.getElem?_replicate]at h2;split at h2 <;> cases h2
   have ha:vs[i]?=some v:=by
    unfold start at h2;rw[List.getElem?_append_left (by simpa using hi),List.getElem?_map]at h2
    cases e:vs[i]? with
    | none=>rw[e]at h2;cases h2
    | some a=>rw[e]at h2;cases h2;rfl
   obtain⟨u,hu,rv⟩:=r.get ha;have hp:ps[i]?=some y:=by
    rw[← S.pre,List.getElem?_take_of_lt (by omega)];exact h1
   have ndP:ps.Nodup:=by rw[← S.pre];exact S.nd.sublist (List.take_sublist _ _)
   refine⟨u,rv,?_⟩;rcases S.par y (List.mem_of_getElem? hp)with k | k
   · exact .inl ⟨k,bindL_get ndP hp hu k⟩
   obtain⟨c,e⟩:=cell_has (n:=s.heap.objs.size+1) k;refine .inr ⟨.inl k,c,e,?_⟩;have q:=x.cell y c e;rw[bindC_get ndP hp hu (by show scope.names.lookup y≠_;rw[k];decide)]at q
   exact q
 · exact e0.hok.fresh (Nat.le_of_lt (x.above y c (PySem.mem_of_lookup h)))
 unfold start;show _=N.length;rw[List.length_append,List.length_map,List.length_replicate];omega
theorem fn_of{CX:CXT}{P:Program}{w:World}{K:W.Frag}{mg:Str->Option Value}{base:Heap}{k:Nat}{f:Addr}{name qual:Str}{params:Arguments}{body:List Stmt}{scope:Scope}{dV kV doc pm cdv ct oc:Value}{an od:Option Addr}
 {osl:Array (Option Value)}{N ps:List Str}{sp:Sp} (lk:K.lookup f=some ⟨oc,od,.func (W.fnOf name qual params body scope dV kV doc pm an cdv ct),osl⟩) (hcd:W.codeIn K cdv qual=true) (S:FnScope N ps scope)
 (len:∀ vs H Q E,sp vs H Q E->vs.length=ps.length)
 (hbody:∀(A:Around) (outer:List Env) (s:Shared) (H:Hp) (vs:List V) (Q:VK) (E:XK),Room k (A.deeper (envOfC qual scope s.heap.objs.size f cdv))->sp vs H Q E ->
  ∃ t,PSs (cxOf CX P w K mg base N qual scope f cdv A outer s H E) body t/\t { nx:=fun _ H'=>Q .non H',rt:=Q } (start N vs) H) :
 FnOk P w K mg base CX (k+1) f (W.fnOf name qual params body scope dV kV doc pm an cdv ct) ps sp:=by
 refine⟨len,fun A outer s H args us vs Q E hr e0 hb r hsp=>?_⟩;have hl:=len _ _ _ _ hsp;have KX:K.In s.heap:=e0.mod.kin.keeps fun b o e=>(e0.bs b o e).1;have lim:s.heap.NoLimit:=e0.mod.nolimit.keeps fun b o e=>(e0.bs b o e).1;have hkind:∀ y∈ps.zip us,scope.names.lookup y.1=some .local∨(scope.names.lookup y.1=some .cell/\((cellsFrom (s.heap.objs.size+1) scope.names []).lookup y.1).isSome=true):=fun⟨n,v⟩ hy=>by
  rcases S.par n (List.of_mem_zip hy).1 with q | q
  · exact .inl q
  exact .inr ⟨q,W.cellsFrom_some _ _ _ (.inl q)⟩
 refine codeAny_call_function hr.depth (KX _ _ lk) rfl S.co S.gen rfl (W.codeRec_of KX hcd) (hb _ _ _ _ ?_);refine wpAny_newFunctionEnv_cells S.kind hkind fun env he s1 x=>?_;subst he;refine⟨lim.keeps x.toInCall.keep,codeAny_func ?_⟩;obtain⟨t,ht,hq⟩:=hbody A outer s H vs Q E (hr.deeper _) hsp;have I:Inv (cxOf CX P w K mg base N qual scope f cdv A outer s H E) [] (start N vs) H s1:=inv_start S hr.hd e0 hl r x;refine wpAny_mono (ht [] s1 (start N vs) H _ I hq) (fun fl s' hs=>?_) fun e s' hs=>hs;have fin:∀{σ':St}{H':Hp}{v:V}{u:Value},Inv (cxOf CX P w K mg base N qual scope f cdv A outer s H E) [] σ' H' s'->RelV v u->Q v H'->CE outer P w H s Q u s':=
  fun {σ' H' v u} J rv q=>⟨v,H',J.os,J.bare,J.base,J.hok,rv,q⟩
 cases fl with
 | ret u=>
   obtain⟨v,σ',H',J,rv,q⟩:=hs;exact fin J rv q
 | next=>
   obtain⟨σ',H',J,q⟩:=hs;exact fin (v:=V.non) (u:=Value.none) J rfl q
 | brk=>
   obtain⟨_,_,_,q⟩:=hs;exact False.elim q
 | cont=>
   obtain⟨_,_,_,q⟩:=hs;exact False.elim q
end L2
namespace L2
open PySem PySem.Spec PyProof.Rows
section
variable{X:Cx}{x:Str}{p pos:Pos}{e:Expr}{es:List Expr}{t:TA}{id T:String}{r:List V->Hp->VK->Prop}
noncomputable def tCB(r:List V->Hp->VK->Prop)(t:TA):TE:=fun σ H Q=>t σ H fun vs H1=>r vs H1 Q
theorem pe_callB(hc:CallR X (.builtin id) r)(hg:Gl X x)(hm:X.mg x=none)(hv:bootBuiltins x=some (.builtin id))(ha:PA X (e::es) t)(hn:x ≠ "__name__":=by decide)(hdb:(x == ("__debug__":Str))=false:=by decide)
 (he:starEach (e::es) X.env=(false,eval e X.env)::starEach es X.env:=by rfl) (hpl:(backTo pos (starEach es X.env)).any (·.1)=false:=by rfl):PE X (.Call (.Name x p) (e::es) [] pos) (tCB r t):=by
 intro pins s σ H Q I h;refine wpAny_Call_Name_kw (ld_blt I hg hm hv ?_ hn hdb);exact PyProof.Rows.callWith_builtin1 (thn (ha pos pins s σ H _ I h) fun us s1 ⟨vs,H1,I1,r1,q1⟩=>hc pins s1 σ H1 vs us Q I1 r1 q1) he hpl
theorem pe_callTy(hc:CallR X (.type T) r)(hg:Gl X x)(hm:X.mg x=none)(hv:bootBuiltins x=some (.type T))(ha:PA X (e::es) t)(hn:x ≠ "__name__":=by decide)(hdb:(x == ("__debug__":Str))=false:=by decide)
 (he:starEach (e::es) X.env=(false,eval e X.env)::starEach es X.env:=by rfl) (hpl:(backTo pos (starEach es X.env)).any (·.1)=false:=by rfl):PE X (.Call (.Name x p) (e::es) [] pos) (tCB r t):=by
 intro pins s σ H Q I h;refine wpAny_Call_Name_kw (ld_blt I hg hm hv ?_ hn hdb);exact PyProof.Rows.callWith_type1 (thn (ha pos pins s σ H _ I h) fun us s1 ⟨vs,H1,I1,r1,q1⟩=>hc pins s1 σ H1 vs us Q I1 r1 q1) he hpl
end
end L2
namespace HT
open PySem PyProof.Rows
section
open PySem.SeqAt
open PySem.AutoSeq1 (wpAny_loadPart')
open PySem.MeetsSeq PySem.MeetsSeq2 PySem.MeetsSeq3
end
section
variable{prog:Program}{w:World}{A:Around}{E:Value->Shared->Prop}{s:Shared}
theorem cat_tup{t b:Addr}{vs ws:List Value}{Q:Value->Shared->Prop}(ht:IsTup s.heap t vs.toArray)(hb:IsTup s.heap b ws.toArray)(hv:vs≠[])
 (h1:ws=[]->Q (.ref t) s) (h2:ws≠[]->Q (.ref s.heap.objs.size) { s with heap:=s.heap.push { cls:=.type "tuple",data:=.seq (vs++ws).toArray } })
 (hsz:vs.length+ws.length<=sizeLine):wpAny (model prog w) A (binaryOp .Add (.ref t) (.ref b)) Q E s:=by
 obtain⟨⟨cls,dd,data,sl⟩,ho,hc,n,hd⟩:=id ht;obtain⟨⟨cls2,dd2,data2,sl2⟩,ho2,hc2,n2,hd2⟩:=id hb;simp only at hc hd hc2 hd2;subst hc hd hc2 hd2;have e:vs.toArray++ws.toArray=(vs++ws).toArray:=by simp
 by_cases hw:ws=[]
 · exact concat_meets ⟨_,ho,rfl⟩ ⟨_,ho2,rfl⟩ noFill_tuple_add seq_tuple_add PySem.F.slot_tuple_add PySem.F.entry_tuple_add (PySem.F.args_tuple_add_2 _ _)
    (tuple_addW1 t b vs.toArray ws.toArray n n2 dd dd2 sl sl2 (by simpa using hv) (by simp[hw])) ⟨ho,ho2,h1 hw⟩
 refine concat_meets ⟨_,ho,rfl⟩ ⟨_,ho2,rfl⟩ noFill_tuple_add seq_tuple_add PySem.F.slot_tuple_add PySem.F.entry_tuple_add (PySem.F.args_tuple_add_2 _ _)
  (tuple_addW2 t b vs.toArray ws.toArray n n2 dd dd2 sl sl2 (by simpa using hv) (by simpa using hw) (by rw[List.size_toArray,List.size_toArray];exact hsz)) ⟨ho,ho2,?_⟩
 rw[e];exact h2 hw
noncomputable def sIx(n d:Nat):Option Int->Nat
 | none=>d
 | some v=>if v < 0 then(v+(n:Int)).toNat else min v.toNat n
theorem sIx_none(n d:Nat):sIx n d none=d:=rfl
theorem sIx_nat(n d k:Nat):sIx n d (some (k:Int))=min k n:=by
 show(if(k:Int) < 0 then((k:Int)+(n:Int)).toNat else min (k:Int).toNat n)=min k n;rw[if_neg (by omega),Int.toNat_natCast]
theorem sIx_le(n d:Nat)(hd:d<=n)(o:Option Int):sIx n d o<=n:=by
 cases o with
 | none=>exact hd
 | some v=>
   show(if v < 0 then(v+(n:Int)).toNat else min v.toNat n)<=n;by_cases hv:v < 0
   · rw[if_pos hv];omega
   rw[if_neg hv];exact Nat.min_le_right _ _
theorem clip_eq(v:Int)(n d:Nat):(if v < 0 then max (v+(n:Int)) 0 else min v (n:Int))=((sIx n d (some v):Nat):Int):=by
 show(if v < 0 then max (v+(n:Int)) 0 else min v (n:Int))=(((if v < 0 then(v+(n:Int)).toNat else min v.toNat n):Nat):Int);by_cases hv:v < 0
 · simp only[if_pos hv];omega
 simp only[if_neg hv];omega
theorem adjust_gen(lo hi:Option Int)(n:Nat):Builtin.Slice.sliceAdjust lo hi 1 (n:Int)=(((sIx n 0 lo:Nat):Int),((sIx n n hi:Nat):Int)):=by
 have h1:¬ ((1:Int) < 0):=by omega
 unfold Builtin.Slice.sliceAdjust;simp only[h1,if_false];refine Prod.ext ?_ ?_
 · cases lo with
   | none=>rfl
   | some v=>exact clip_eq v n 0
 cases hi with
 | none=>rfl
 | some v=>exact clip_eq v n n
theorem places_gen(i j:Nat):Builtin.Slice.slicePlaces (i:Int) (j:Int) 1=j - i:=by
 unfold Builtin.Slice.slicePlaces;have h1:(1:Int) > 0:=by omega
 simp only[h1,if_true,Int.ediv_one];split <;> omega
theorem slicePart_{v:Value}{o:Option Int}{Q:Option Int->Shared->Prop}(p:IsPart v o)(h:Q o s):wpAny (model prog w) A (Builtin.Slice.slicePartIndex v) Q E s:=by
 cases p with
 | none=>exact slicePart_none h
 | int i t=>exact slicePart_int h
theorem sliceApplied_gen{sl:Addr}{vl vu:Value}{lo hi:Option Int}{n:Nat}{Q:Int×Int×Nat->Shared->Prop}(hs:s.heap.IsSliceOf sl vl vu .none)(pl:IsPart vl lo)(pu:IsPart vu hi)
 (h:Q (((sIx n 0 lo:Nat):Int),1,sIx n n hi - sIx n 0 lo) s):wpAny (model prog w) A (Builtin.Slice.sliceApplied (.ref sl) (pure (n:Int))) Q E s:=by
 obtain⟨os,hos,hcs,hds⟩:=id hs;unfold Builtin.Slice.sliceApplied Builtin.Slice.sliceFields;refine wpAny_bind (wpAny_bind (wpAny_field hos hds (x:=vl) rfl (wpAny_bind (wpAny_field hos hds (x:=vu) rfl (wpAny_bind (wpAny_field hos hds (x:=.none) rfl (wpAny_pure ?_)))))));refine wpAny_bind (slicePart_none ?_);show wpAny _ _ (if((1:Int) == 0)=true then _ else _) _ _ s;rw[if_neg (by decide)]
 refine wpAny_bind (slicePart_ pl (wpAny_bind (slicePart_ pu (wpAny_bind (wpAny_pure ?_)))));show wpAny _ _ (match Builtin.Slice.sliceAdjust lo hi 1 (n:Int)with | (lo,hi)=>pure (lo,(1:Int),Builtin.Slice.slicePlaces lo hi 1)) _ _ s;rw[adjust_gen lo hi n];show wpAny _ _ (pure (((sIx n 0 lo:Nat):Int),(1:Int),Builtin.Slice.slicePlaces ((sIx n 0 lo:Nat):Int) ((sIx n n hi:Nat):Int) 1)) _ _ s;rw[places_gen];exact wpAny_pure h
theorem pick_gen(xs:Array Value)(i k:Nat):((List.range k).filterMap fun(m:Nat)=>xs[((i:Int)+(m:Int)*1).toNat]?).toArray=((xs.toList.drop i).take k).toArray:=by
 have e:(fun(m:Nat)=>xs[((i:Int)+(m:Int)*1).toNat]?)=fun m=>xs[i+m]?:=by
  funext m
  have:((i:Int)+(m:Int)*1).toNat=i+m:=by omega
  rw[this]
 rw[e];have:=pick_run xs i k;rw[List.filterMap_map]at this;have e2:((fun x=>xs[x]?) ∘ fun x=>i+x)=fun m=>xs[i+m]?:=rfl;rw[e2]at this;rw[this]
theorem getItem_tuple_cut{t sl:Addr}{items:Array Value}{vl vu:Value}{lo hi:Option Int}{Q:Value->Shared->Prop}(ht:IsTup s.heap t items)(hs:s.heap.IsSliceOf sl vl vu .none)(pl:IsPart vl lo)(pu:IsPart vu hi)
 (hw:¬ (sIx items.size 0 lo=0/\sIx items.size items.size hi=items.size))
 (h:Q (.ref s.heap.objs.size) { s with heap:=s.heap.push { cls:=.type "tuple",data:=.seq ((items.toList.drop (sIx items.size 0 lo)).take (sIx items.size items.size hi - sIx items.size 0 lo)).toArray } })
 (hsz:items.size<=sizeLine):wpAny (model prog w) A (getItem (.ref t) (.ref sl)) Q E s:=by
 have htake:sizeOk (.seq ((items.toList.drop (sIx items.size 0 lo)).take (sIx items.size items.size hi - sIx items.size 0 lo)).toArray):=by
  show((items.toList.drop (sIx items.size 0 lo)).take (sIx items.size items.size hi - sIx items.size 0 lo)).toArray.size<=sizeLine;rw[List.size_toArray,List.length_take,List.length_drop,Array.length_toList];omega
 have hj:sIx items.size items.size hi<=items.size:=sIx_le _ _ (Nat.le_refl _) hi;obtain⟨os,hos,hcs,hds⟩:=id hs;have hTs:s.TypeIs (.ref sl) "slice":=⟨os,hos,hcs⟩;unfold getItem
 try with_reducible refine wpAny_holding ?_
 first | refine wpAny_bind (wpAny_pure ?_) | skip
 refine wpAny_bind (wpAny_sequenceKey ht.typeIs (by decide) ?_)
 refine wpAny_bind (wpAny_callSpecial?_slot (name:=Str.ofString "__getitem__") ht.typeIs PyProof.Rows.slot_tuple_getitem
  (wpAny_call_entry PyProof.Rows.slot_tuple_getitem ht.typeIs entry_tuple_getitem ?_ (args_tuple_getitem _ _)))
 show wpAny _ _ (Builtin.Tuple.tupleItemsOf (.ref t) >>= _) _ _ s;refine wpAny_bind (tupleItemsOf_ ht ?_);refine wpAny_bind (wpAny_typeOf hTs ?_);rw[if_pos (by decide)]
 refine wpAny_bind (sliceApplied_gen hs pl pu ?_);have hno:¬ ((((sIx items.size 0 lo:Nat):Int) == 0 && (1:Int) == 1 && (sIx items.size items.size hi - sIx items.size 0 lo) == items.size)=true):=by
  intro q;rw[Bool.and_eq_true,Bool.and_eq_true]at q;have q1:((sIx items.size 0 lo:Nat):Int)=0:=eq_of_beq q.1.1;have q2:sIx items.size items.size hi - sIx items.size 0 lo=items.size:=eq_of_beq q.2;exact hw ⟨by omega,by omega⟩
 show wpAny _ _ (if(((sIx items.size 0 lo:Nat):Int) == 0 && (1:Int) == 1 && (sIx items.size items.size hi - sIx items.size 0 lo) == items.size)=true then _ else _) _ _ s;rw[if_neg hno,pick_gen]
 first
  | exact wpAny_bind (m:=Builtin.Tuple.tupleExact _) (wpAny_newObj_type (wpAny_pure ⟨_,rfl,wpAny_pure h⟩) htake)
  | exact wpAny_bind (m:=Builtin.Tuple.tupleExact _) (wpAny_newObj_type (wpAny_bind (wpAny_pure (wpAny_pure ⟨_,rfl,wpAny_pure h⟩))) htake)
  | exact wpAny_bind (wpAny_bind (m:=Builtin.Tuple.tupleExact _) (wpAny_newObj_type (wpAny_pure (wpAny_pure ⟨_,rfl,wpAny_pure h⟩)) htake))
  | exact wpAny_bind (wpAny_bind (m:=Builtin.Tuple.tupleExact _) (wpAny_newObj_type (wpAny_pure ⟨_,rfl,wpAny_pure h⟩) htake))
end
end HT
namespace L2
open PySem PySem.Spec PyProof.Rows
noncomputable abbrev TO:=St->Hp->(Option Int->Hp->Prop)->Prop
noncomputable def PO(X:Cx)(e:Option Expr)(t:TO):Prop:=
 ∀(pins:List (Addr×Obj)) (s:Shared) (σ:St) (H:Hp) (Q:Option Int->Hp->Prop),Inv X pins σ H s->t σ H Q ->
   wpAny (model X.prog X.w) X.A (evalPart e X.env) (fun u s'=>∃ o H',Inv X pins σ H' s'/\IsPart u o/\Q o H') X.xe s
noncomputable def tNoPart:TO:=fun _ H Q=>Q none H
noncomputable def tPart(t:TE):TO:=fun σ H Q=>t σ H fun x H1=>∃ i,x=.int i/\Q (some i) H1
theorem intsAre_of{ns:List Int}:∀{us:List Value},Vals (ns.map V.int) us->IntsAre us ns:=by
 induction ns with
 | nil=>intro us r;rw[List.map_nil]at r;cases r;exact .nil
 | cons n ns ih=>
   intro us r;rw[List.map_cons]at r;cases r with
   | cons r1 r2=>
     obtain⟨t,e⟩:=r1;subst e;exact .cons n t (ih r2)
section
variable{X:Cx}{e:Expr}{te:TE}{lo hi:Option Expr}{tl th:TO}{pos p2:Pos}
theorem po_none:PO X none tNoPart:=by
 intro pins s σ H Q I h;rw[evalPart_none];exact wpAny_pure ⟨none,H,I,.none,h⟩
theorem po_some(h:PE X e te):PO X (some e) (tPart te):=by
 intro pins s σ H Q I hw;rw[evalPart_some];refine thn (h pins s σ H _ I hw) fun u s1 zz=>?_;obtain⟨x,H1,I1,r1,q1⟩:=zz;obtain⟨i,rfl,q⟩:=q1;obtain⟨t,rfl⟩:=r1;exact⟨some i,H1,I1,.int i t,q⟩
noncomputable def SlR(X:Cx)(r:V->Option Int->Option Int->Hp->VK->Prop):Prop:=
 ∀(pins:List (Addr×Obj)) (s:Shared) (σ:St) (H:Hp) (x:V) (v vl vu:Value) (lo hi:Option Int) (sl:Addr) (Q:VK),Inv X pins σ H s->RelV x v->s.heap.IsSliceOf sl vl vu .none->IsPart vl lo->IsPart vu hi->r x lo hi H Q ->
   ∃ T id,typeLookup (.type T) "__getitem__"=pure (some (.builtin id))/\s.TypeIs v T/\wpAny (model X.prog X.w) X.A (getItem v (.ref sl)) (EP X pins σ Q) X.xe s
noncomputable def tSl(r:V->Option Int->Option Int->Hp->VK->Prop)(te:TE)(tl th:TO):TE:=fun σ H Q=>te σ H fun x H1=>tl σ H1 fun l H2=>th σ H2 fun u H3=>r x l u H3 Q
theorem pe_slice{r:V->Option Int->Option Int->Hp->VK->Prop}(hr:SlR X r)(he:PE X e te)(hl:PO X lo tl)(hu:PO X hi th):PE X (.Subscript e (.Slice lo hi none p2) pos) (tSl r te tl th):=by
 intro pins s σ H Q I h;refine Subscript_ (thn (he pins s σ H _ I h) fun v s1 zz=>?_);obtain⟨x,H1,I1,r1,q1⟩:=zz;refine wpAny_Slice (thn (hl pins s1 σ H1 _ I1 q1) fun vl s2 ⟨l,H2,I2,pl,q2⟩=>thn (hu pins s2 σ H2 _ I2 q2) fun vu s3 zz=>?_);obtain⟨u,H3,I3,pu,q3⟩:=zz;rw[evalPart_none];refine wpAny_pure ?_;have I4:Inv X pins σ H3 { s3 with heap:=s3.heap.push { cls:=.type "slice",data:=.fields #[vl,vu,.none] } }:=I3.kept (t':=s3.toks) fun b ob q=>Heap.get?_push_of_some _ q;obtain⟨T,id,hT,ht,hg⟩:=hr pins { s3 with heap:=s3.heap.push { cls:=.type "slice",data:=.fields #[vl,vu,.none] } } σ H3 x v vl vu l u s3.heap.objs.size Q I4 r1 (Heap.IsSliceOf.new ..) pl pu q3;show wpAny (model X.prog X.w) X.A (subscriptTail e (.Slice lo hi none p2) v (.ref s3.heap.objs.size)) (EP X pins σ Q) X.xe { s3 with heap:=s3.heap.push { cls:=.type "slice",data:=.fields #[vl,vu,.none] } };exact tail_any (ops:=[.ref s3.heap.objs.size,v]) ht hT hg (by with_unfolding_all rfl)
noncomputable def cutV(xs:List V)(lo hi:Option Int):List V:=(xs.drop (HT.sIx xs.length 0 lo)).take (HT.sIx xs.length xs.length hi - HT.sIx xs.length 0 lo)
theorem cutV_length(xs:List V)(lo hi:Option Int):(cutV xs lo hi).length<=xs.length:=by
 unfold cutV;rw[List.length_take,List.length_drop];omega
noncomputable def rSlT(K:W.Frag):V->Option Int->Option Int->Hp->VK->Prop:=fun x lo hi H Q=>∃ a xs,x=.ref a/\SqT K H a xs /\
 ¬ (HT.sIx xs.length 0 lo=0/\HT.sIx xs.length xs.length hi=xs.length) /\ ∀ p,H p=none->Q (.ref p) (upd H p (.tup (cutV xs lo hi)))
theorem sl_tup:SlR X (rSlT X.K):=by
 intro pins s σ H x v vl vu lo hi sl Q I rx hs pl pu h;obtain⟨a,xs,rfl,hx,hw,q⟩:=h;cases rx;obtain⟨its,r,ht,hz⟩:=I.tuple hx;have hlen:its.toArray.size=xs.length:=by rw[List.size_toArray];exact r.length.symm
 refine⟨"tuple",_,PyProof.Rows.slot_tuple_getitem.lookup,ht.typeIs,?_⟩;refine HT.getItem_tuple_cut ht hs pl pu (by rw[hlen];exact hw) ?_ (by rw[hlen];exact hz)
 rw[hlen];refine⟨.ref s.heap.objs.size,_,I.laid (t':=s.toks) (o:=.tup (cutV xs lo hi)) (fun b ob q=>Heap.get?_push_of_some _ q) (Nat.le_refl _) ?_,rfl,q _ (I.hok.fresh (Nat.le_refl _))⟩;exact⟨Nat.le_trans (cutV_length xs lo hi) hz,_,(r.drop (HT.sIx xs.length 0 lo)).take (HT.sIx xs.length xs.length hi - HT.sIx xs.length 0 lo),IsTup.new _ _⟩
noncomputable def rCatT(K:W.Frag):R2:=fun x y H Q=>∃ a b xs ys,x=.ref a/\y=.ref b/\SqT K H a xs/\SqT K H b ys/\xs≠[]/\xs.length+ys.length<=sizeLine /\
 (ys=[]->Q (.ref a) H)/\(ys≠[] -> ∀ p,H p=none->Q (.ref p) (upd H p (.tup (xs++ys))))
theorem Vals.nil_iff{xs:List V}{us:List Value}(r:Vals xs us):us=[] ↔ xs=[]:=by
 cases r with
 | nil=>simp
 | cons _ _=>simp
theorem op_catT:OpR X (binaryOp .Add) (rCatT X.K):=by
 intro pins s σ H x y v u Q I rx ry h;obtain⟨a,b,xs,ys,rfl,rfl,ha,hb,hx,hz,q1,q2⟩:=h;cases rx;cases ry;obtain⟨its,r1,p1,_⟩:=I.tuple ha;obtain⟨its2,r2,p2,_⟩:=I.tuple hb;refine HT.cat_tup p1 p2 (fun z=>hx (r1.nil_iff.mp z)) (fun z=>⟨.ref a,H,I,rfl,q1 (r2.nil_iff.mp z)⟩) (fun z=>?_) (by rw[← r1.length,← r2.length];exact hz)
 refine⟨.ref s.heap.objs.size,_,I.laid (t':=s.toks) (o:=.tup (xs++ys)) (fun b ob q=>Heap.get?_push_of_some _ q) (Nat.le_refl _) ?_,rfl,q2 (fun w=>z (r2.nil_iff.mpr w)) _ (I.hok.fresh (Nat.le_refl _))⟩;exact⟨by rw[List.length_append];exact hz,_,r1.append r2,IsTup.new _ _⟩
end
end L2
namespace L2
open PySem PySem.Spec PyProof.Rows
noncomputable def ixN(n:Nat)(i:Int):Option Nat:=if 0<=i then(if i < n then some i.toNat else none)else if -(n:Int)<=i then some (i+n).toNat else none
noncomputable def atI{α:Type}(xs:List α)(i:Int):Option α:=(ixN xs.length i).bind fun j=>xs[j]?
theorem ixN_seq{n:Nat}{i:Int}{j:Nat}(h:ixN n i=some j):seqIndex? i n=some j/\j < n /\ -(n:Int)<=i/\i < n:=by
 unfold ixN at h;by_cases h0:0<=i
 · rw[if_pos h0]at h
   by_cases h1:i < n
   · rw[if_pos h1]at h
     have e:i.toNat=j:=Option.some.inj h;exact⟨by rw[seqIndex_of h0 h1,e],by omega,by omega,h1⟩
   rw[if_neg h1]at h;cases h
 rw[if_neg h0]at h;by_cases h1:-(n:Int)<=i
 · rw[if_pos h1]at h
   have e:(i+n).toNat=j:=Option.some.inj h;exact⟨by rw[seqIndex_neg (by omega) h1,e],by omega,h1,by omega⟩
 rw[if_neg h1]at h;cases h
theorem atI_get{α:Type}{xs:List α}{i:Int}{v:α}(h:atI xs i=some v):∃ j,seqIndex? i xs.length=some j/\xs[j]?=some v/\j < xs.length /\ -(xs.length:Int)<=i/\i < xs.length:=by
 unfold atI at h;cases e:ixN xs.length i with
 | none=>rw[e]at h;cases h
 | some j=>
   rw[e]at h;obtain⟨h1,h2,h3,h4⟩:=ixN_seq e;exact⟨j,h1,h,h2,h3,h4⟩
theorem atI_nat{α:Type}{xs:List α}{j:Nat}{v:α}(h:xs[j]?=some v):atI xs (j:Int)=some v:=by
 have hj:j < xs.length:=(List.getElem?_eq_some_iff.mp h).1;have e:ixN xs.length (j:Int)=some j:=by
  unfold ixN;rw[if_pos (by omega),if_pos (by omega)];simp
 unfold atI;rw[e];exact h
theorem atI_last{α:Type}(xs:List α)(v:α):atI (xs++[v]) (-1)=some v:=by
 have hl:(xs++[v]).length=xs.length+1:=by simp
 have e:ixN (xs++[v]).length (-1)=some xs.length:=by
  unfold ixN;rw[hl,if_neg (by decide),if_pos (by omega)]
  congr 1
  omega
 unfold atI;rw[e];show(xs++[v])[xs.length]?=some v;simp
noncomputable def PlainIx(b:Expr):Prop:=∀ o i,subscripted b false o i=operate [o,i] (getItem o i)
noncomputable def IxR(X:Cx)(r:R2):Prop:=
 ∀(value slice:Expr) (pins:List (Addr×Obj)) (s:Shared) (σ:St) (H:Hp) (x y:V) (v u:Value) (Q:VK),Inv X pins σ H s->RelV x v->RelV y u->r x y H Q ->
   subscripted slice false v u=operate [v,u] (getItem v u)->wpAny (model X.prog X.w) X.A (subscriptTail value slice v u) (EP X pins σ Q) X.xe s
noncomputable def MtR(X:Cx)(id:String)(r:V->List V->Hp->VK->Prop):Prop:=
 ∀(pins:List (Addr×Obj)) (s:Shared) (σ:St) (H:Hp) (x:V) (xs:List V) (v:Value) (us:List Value) (Q:VK),Inv X pins σ H s->RelV x v->Vals xs us->r x xs H Q ->
   wpAny (model X.prog X.w) X.A (call (.builtin id) (v::us)) (EP X pins σ Q) X.xe s
section
variable{X:Cx}{a b:Expr}{ta tb:TE}{pos:Pos}
theorem pe_ix{r:R2}(hr:IxR X r)(ha:PE X a ta)(hb:PE X b tb)(hs:PlainIx b):PE X (.Subscript a b pos) (tOp r ta tb):=by
 intro pins s σ H Q I h;exact Subscript_ (binT ha hb I h fun v u s2 x y H2 I2 rx ry q=>hr a b pins s2 σ H2 x y v u Q I2 rx ry q (hs _ _))
noncomputable def rIxL(K:W.Frag):R2:=fun x y H Q=>∃ p xs i v,x=.ref p/\y=.int i/\SqL K H p xs/\atI xs i=some v/\Q v H
noncomputable def rIxT(K:W.Frag):R2:=fun x y H Q=>∃ p xs i v,x=.ref p/\y=.int i/\SqT K H p xs/\atI xs i=some v/\Q v H
theorem ix_list:IxR X (rIxL X.K):=by
 intro value slice pins s σ H x y v u Q I rx ry h hs;obtain⟨p,xs,i,z,rfl,rfl,hq,he,q⟩:=h;cases rx;obtain⟨t,rfl⟩:=ry;obtain⟨its,r,pl,hz⟩:=I.list hq;obtain⟨j,h1,h2,h3,h4,h5⟩:=atI_get he;obtain⟨w,ew,rw'⟩:=r.get h2;have hl:=r.length;have hn:=line63;have fin:EP X pins σ Q w s:=⟨z,H,I,rw',q⟩;by_cases h0:0<=i
 · have hj:i.toNat=j:=by
    rw[seqIndex_of h0 h5]at h1;exact Option.some.inj h1
   exact item_listR pl.isList h0 (by omega) (by rw[hj];simpa using ew) fin hs
 have hj:(i+(its.toArray.size:Int)).toNat=j:=by
  rw[seqIndex_neg (by omega) h4]at h1
  rw[List.size_toArray,← hl];exact Option.some.inj h1
 exact subscriptTail_builtinR (x:=w) pl.isList.typeIs slot_list_getitem.lookup
  (wpAny_getItem_list_neg (Q:=fun r s'=>r=w/\EP X pins σ Q r s') pl.isList (by omega) (by rw[List.size_toArray] <;> omega) (by omega) (by rw[hj];simpa using ew) ⟨rfl,fin⟩) hs
theorem ix_tup:IxR X (rIxT X.K):=by
 intro value slice pins s σ H x y v u Q I rx ry h hs;obtain⟨p,xs,i,z,rfl,rfl,hq,he,q⟩:=h;cases rx;obtain⟨t,rfl⟩:=ry;obtain⟨its,r,pl,hz⟩:=I.tuple hq;obtain⟨j,h1,h2,h3,h4,h5⟩:=atI_get he;obtain⟨w,ew,rw'⟩:=r.get h2;have hl:=r.length;have hn:=line63;have fin:EP X pins σ Q w s:=⟨z,H,I,rw',q⟩;exact subscriptTail_builtinR (x:=w) pl.typeIs slot_tuple_getitem.lookup
  (getItem_tuple (j:=j) (Q:=fun r s'=>r=w/\EP X pins σ Q r s') pl (by omega) (by omega) (by rw[List.size_toArray,← hl];exact h1) (by simpa using ew) ⟨rfl,fin⟩) hs
theorem mapSeq_set(its:List Value)(n j:Nat)(u:Value):Obj.mapSeq (·.setIfInBounds j u) { cls:=.type "list",data:=.seq its.toArray n }={ cls:=.type "list",data:=.seq (its.set j u).toArray n }:=by
 simp[Obj.mapSeq]
theorem Inv.lst{pins:List (Addr×Obj)}{σ:St}{H:Hp}{s:Shared}{p:Addr}{xs:List V}(I:Inv X pins σ H s)(h:H p=some (.lst xs)) :
 ∃(its:List Value) (n:Nat),Vals xs its/\s.heap.get? p=some { cls:=.type "list",data:=.seq its.toArray n } /\ xs.length<=sizeLine:=by
 obtain⟨z,its,n,r,e⟩:=I.hok p _ h;exact⟨its,n,r,e,z⟩
theorem Inv.lstUpd{pins:List (Addr×Obj)}{σ:St}{H:Hp}{s:Shared}{p:Addr}{xs ys:List V}{its its':List Value}{n n':Nat}{f:Obj->Obj}(I:Inv X pins σ H s)(h:H p=some (.lst xs))
 (ho:s.heap.get? p=some { cls:=.type "list",data:=.seq its.toArray n }) (hf:f { cls:=.type "list",data:=.seq its.toArray n }={ cls:=.type "list",data:=.seq its'.toArray n' }) (r:Vals ys its') (hz:ys.length<=sizeLine) (t:Nat) :
 Inv X pins σ (upd H p (.lst ys)) { s with heap:=s.heap.update p f,toks:=t }:=by
 have e:(s.heap.update p f).get? p=some { cls:=.type "list",data:=.seq its'.toArray n' }:=by
  rw[Heap.get?_update_self f ho (by rw[hf] <;> rfl),hf]
 refine I.write (x:=p) (e:=p) (by rw[h];trivial) (.inl rfl) (fun b u hb q=>(Heap.get?_update_other _ _ (Ne.symm hb)).trans q) ⟨_,e⟩ ?_
 exact⟨hz,its',n',r,e⟩
noncomputable def rSetL:V->V->V->Hp->(Hp->Prop)->Prop:=fun o i v H Q=>∃ p xs k j,o=.ref p/\i=.int k/\H p=some (.lst xs)/\ixN xs.length k=some j/\Q (upd H p (.lst (xs.set j v)))
theorem set_list:PSet X rSetL:=by
 intro pins s σ H o i v ov iv u Q I ro ri rv h;obtain⟨p,xs,k,j,rfl,rfl,hp,hj,q⟩:=h;cases ro;obtain⟨t,rfl⟩:=ri;obtain⟨its,n,r,ho,hz⟩:=I.lst hp;obtain⟨h1,h2,h3,h4⟩:=ixN_seq hj;have hl:=r.length;have hn:=line63;have I':Inv X pins σ (upd H p (.lst (xs.set j v))) { s with heap:=s.heap.update p (Obj.mapSeq (·.setIfInBounds j u)) }:=
  I.lstUpd hp ho (mapSeq_set its n j u) (r.set rv j) (by rw[List.length_set];exact hz) s.toks
 by_cases h0:0<=k
 · have hk:k.toNat=j:=by
    rw[seqIndex_of h0 h4]at h1;exact Option.some.inj h1
   exact W.ki_setAt ho h0 (by omega) (by rw[List.size_toArray,← hl];exact h4) (by rw[hk];exact⟨_,I',q⟩)
 have hk:(k+(its.toArray.size:Int)).toNat=j:=by
  rw[seqIndex_neg (by omega) h3]at h1
  rw[List.size_toArray,← hl];exact Option.some.inj h1
 exact W.ki_setBack ho (by omega) (by rw[List.size_toArray,← hl];exact h3) (by omega) (by rw[hk];exact⟨_,I',q⟩)
theorem slice_bounds(lo hi:Option Int)(n:Nat):(sliceBounds lo hi none n).1=((HT.sIx n 0 lo:Nat):Int)/\(sliceBounds lo hi none n).2.1=((HT.sIx n n hi:Nat):Int)/\(sliceBounds lo hi none n).2.2=1:=by
 refine⟨?_,?_,rfl⟩
 · cases lo with
   | none=>simp[sliceBounds,HT.sIx]
   | some i=>
     simp only[sliceBounds,HT.sIx,Option.getD_none,show(1:Int) > 0 by decide,if_true]
     by_cases h:i < 0
     · simp only[h,if_true] <;> omega
     simp only[h,if_false] <;> omega
 cases hi with
 | none=>simp[sliceBounds,HT.sIx]
 | some i=>
   simp only[sliceBounds,HT.sIx,Option.getD_none,show(1:Int) > 0 by decide,if_true]
   by_cases h:i < 0
   · simp only[h,if_true] <;> omega
   simp only[h,if_false] <;> omega
theorem slicePick_cut(its:List Value)(lo hi:Option Int):slicePick its.toArray lo hi none=((its.drop (HT.sIx its.length 0 lo)).take (HT.sIx its.length its.length hi - HT.sIx its.length 0 lo)).toArray:=by
 obtain⟨h1,h2,h3⟩:=slice_bounds lo hi its.toArray.size;unfold slicePick;rw[h1,h2,h3];simp only[sliceRange_one,pick_run,List.size_toArray] <;> rfl
noncomputable def rSlL(K:W.Frag):V->Option Int->Option Int->Hp->VK->Prop:=fun x lo hi H Q=>∃ a xs,x=.ref a/\SqL K H a xs /\ ∀ p,H p=none->Q (.ref p) (upd H p (.lst (cutV xs lo hi)))
theorem sl_list:SlR X (rSlL X.K):=by
 intro pins s σ H x v vl vu lo hi sl Q I rx hs pl pu h;obtain⟨a,xs,rfl,hx,q⟩:=h;cases rx;obtain⟨its,r,ht,hz⟩:=I.list hx;have hlen:=r.length;refine⟨"list",_,slot_list_getitem.lookup,ht.isList.typeIs,?_⟩;refine wpAny_getItem_list_slice ht.isList hs pl pu .none (by simp) ?_ (by rw[List.size_toArray] <;> omega)
 rw[slicePick_cut,← hlen];refine⟨.ref s.heap.objs.size,_,I.laid (t':=s.toks) (o:=.lst (cutV xs lo hi)) (fun b ob q=>Heap.get?_push_of_some _ q) (Nat.le_refl _) ?_,rfl,q _ (I.hok.fresh (Nat.le_refl _))⟩;exact⟨Nat.le_trans (cutV_length xs lo hi) hz,_,0,(r.drop (HT.sIx xs.length 0 lo)).take (HT.sIx xs.length xs.length hi - HT.sIx xs.length 0 lo),Heap.get?_push_size _ rfl⟩
theorem call_len_seq:CallR X (.builtin "len") (fun xs H Q=>∃ p ys,xs=[.ref p]/\(SqL X.K H p ys∨SqT X.K H p ys)/\Q (.int ys.length) H):=by
 intro pins s σ H xs us Q I r h;obtain⟨p,ys,rfl,hq,q⟩:=h;obtain⟨u,rfl,rx⟩:=vals1 r;cases rx;have hn:=line63;rcases hq with hq | hq
 · obtain⟨its,r',pl,hz⟩:=I.list hq
   have hlen:=r'.length;exact Calls.call_len_list pl.isList (by simp only[List.size_toArray] <;> omega) ⟨.int ys.length,H,I.tok _,⟨s.toks+1,by rw[List.size_toArray,hlen]⟩,q⟩
 obtain⟨its,r',pl,hz⟩:=I.tuple hq;have hlen:=r'.length;exact len_tuple pl (by simp only[List.size_toArray] <;> omega) ⟨.int ys.length,H,I.tok _,⟨s.toks+1,by rw[List.size_toArray,hlen]⟩,q⟩
theorem call_tuple_of:CallR X (.type "tuple") (fun xs H Q=>∃ p ys,xs=[.ref p]/\((SqL X.K H p ys /\ ∀ l,H l=none->Q (.ref l) (upd H l (.tup ys)))∨(SqT X.K H p ys/\Q (.ref p) H))):=by
 intro pins s σ H xs us Q I r h;obtain⟨p,ys,rfl,h⟩:=h;obtain⟨u,rfl,rx⟩:=vals1 r;cases rx;rcases h with ⟨hq,q⟩ | ⟨hq,q⟩
 · obtain⟨its,r',pl,hz⟩:=I.list hq
   have hlen:=r'.length;refine call_tuple_list pl.isList (fun h' kp=>?_) (by simp only[List.size_toArray] <;> omega)
   have I1:Inv X pins σ H { s with heap:=h' }:=I.kept (t':=s.toks) kp;have I2:Inv X pins σ (upd H h'.objs.size (.tup ys)) { s with heap:=h'.push { cls:=.type "tuple",data:=.seq its.toArray } }:=
    I1.laid (t':=s.toks) (fun b o e=>Heap.get?_push_of_some _ e) (Nat.le_refl _) (show ObjOk X.prog X.w _ _ _ (.tup ys)from⟨hz,its,r',IsTup.new _ _⟩)
   exact⟨.ref h'.objs.size,_,I2,rfl,q _ (I1.hok.fresh (Nat.le_refl _))⟩
 obtain⟨its,r',pl,hz⟩:=I.tuple hq;exact call_tuple_same pl ⟨.ref p,H,I,rfl,q⟩
noncomputable def tyV(K:W.Frag)(T:String)(x:V)(H:Hp):Prop:=match x with
 | .str _=>T="str"
 | .int _=>T="int"
 | .ref p=>(T="list" /\ ∃ xs,SqL K H p xs)∨(T="tuple" /\ ∃ o,K.lookup p=some o/\o.cls=.type "tuple" /\ o.dict=none) ∨
  (T="dict" /\ ((∃ kvs,H p=some (.dK kvs)) ∨ ∃ kvs,H p=some (.dT kvs)))∨(T="set" /\ ∃ S n,H p=some (.set S n))
 | _=>False
theorem tyV_is{pins:List (Addr×Obj)}{σ:St}{H:Hp}{s:Shared}{T:String}{x:V}{v:Value}(I:Inv X pins σ H s)(r:RelV x v)(ty:tyV X.K T x H) :
 s.TypeIs v T /\ ∀ a,v=.ref a -> ∃ ob,s.heap.get? a=some ob/\ob.dict=none:=by
 cases x with
 | str z=>
   obtain⟨t,rfl⟩:=r;cases (show T="str" from ty);exact⟨typeIs_str s z t,fun _ e=>nomatch e⟩
 | int i=>
   obtain⟨t,rfl⟩:=r;cases (show T="int" from ty);exact⟨typeIs_int s i t,fun _ e=>nomatch e⟩
 | ref p=>
   cases r;rcases ty with ⟨rfl,xs,hq⟩ | ⟨rfl,o,hk,hc,hd⟩ | ⟨rfl,hk⟩ | ⟨rfl,S,n,hk⟩
   · obtain⟨its,_,pl,_⟩:=I.list hq
     refine⟨pl.isList.typeIs,fun a e=>?_⟩;cases e;obtain⟨o,n,e,c,hd,_⟩:=pl;exact⟨o,e,hd⟩
   · refine⟨⟨o,I.kIn p o hk,hc⟩,fun a e=>?_⟩
     cases e;exact⟨o,I.kIn _ o hk,hd⟩
   · have z:∃ o,s.heap.get? p=some o/\o.ExactDict:=by
      rcases hk with ⟨kvs,hk⟩ | ⟨kvs,hk⟩
      · obtain⟨_,_,_,_,o,_,_,e,ex,_⟩:=I.hok p _ hk
        exact⟨o,e,ex⟩
      obtain⟨_,_,_,_,o,_,_,e,ex,_⟩:=I.hok p _ hk;exact⟨o,e,ex⟩
     obtain⟨o,e,ex⟩:=z;refine⟨⟨o,e,ex.1⟩,fun a e2=>?_⟩;cases e2;exact⟨o,e,ex.2.1⟩
   obtain⟨o,_,_,_,e,ex,_⟩:=I.hok p _ hk;refine⟨⟨o,e,ex.1⟩,fun a e2=>?_⟩;cases e2;exact⟨o,e,ex.2.1⟩
 | _=>exact False.elim ty
noncomputable def tBM(K:W.Frag)(T:String)(r:V->List V->Hp->VK->Prop)(to:TE)(t:TA):TE:=fun σ H Q=>to σ H fun x H1=>tyV K T x H1/\t σ H1 fun xs H2=>r x xs H2 Q
variable{o e:Expr}{es:List Expr}{to:TE}{t:TA}{name:Str}{apos cpos:Pos}{T id:String}{r:V->List V->Hp->VK->Prop}
theorem pe_bm(pa:PlainAttrs T)(slot:Slot T name id)(hty:typeOf (.builtin id)=pure (.type "method_descriptor"))(hm:MtR X id r)(ho:PE X o to)(ha:PA X (e::es) t)
 (hbase:attributeBase o name X.env (eval o X.env)=eval o X.env:=by rfl)
 (hfew:((backTo cpos (starEach (e::es) X.env)).all (fun x=>!x.1) && (backToKw cpos (keywordEach [] X.env)).all (fun x=>x.1.isSome)
  && decide ((e::es).length+([]:List Keyword).length+(if([]:List Keyword).isEmpty then 0 else 1) < 30))=true:=by rfl)
 (hline:(apos.endLine == cpos.line)=true:=by rfl) (hs:starEach (e::es) X.env=(false,eval e X.env)::starEach es X.env:=by rfl) (hplain:(backTo cpos (starEach es X.env)).any (·.1)=false:=by rfl) :
 PE X (.Call (.Attribute o name apos) (e::es) [] cpos) (tBM X.K T r to t):=by
 intro pins s σ H Q I h;refine wpAny_Call_method_late hbase hfew hline rfl (thn (ho pins s σ H _ I h) fun v s1 zz=>?_);obtain⟨x,H1,I1,r1,ty,q1⟩:=zz;obtain⟨h1,h2⟩:=tyV_is I1 r1 ty;refine⟨T,id,pa,slot,hty,h1,h2,?_⟩;have hA:=ha cpos pins s1 σ H1 _ I1 q1;rw[hs]at hA ⊢;refine Calls.callWith_builtin (by show(false || (backTo cpos (starEach es X.env)).any (·.1))=false;rw[hplain] <;> rfl) (Calls.evalArgs_plain ?_)
 exact thn hA fun us s2 ⟨vs,H2,I2,r2,q2⟩=>hm pins s2 σ H2 x vs v us Q I2 r1 r2 q2
/- xs.append(e),list.index on a module's tuple .. are MtR facts of 06m -/
end
end L2
namespace L2
open PySem PySem.Spec PyProof.Rows
noncomputable def MtM(X:Cx)(id:String)(r:V->List V->Hp->VK->Prop):Prop:=
 ∀(pins:List (Addr×Obj)) (s:Shared) (σ:St) (H:Hp) (x:V) (xs:List V) (v:Value) (us:List Value) (Q:VK),Inv X pins σ H s->RelV x v->Vals xs us->r x xs H Q ->
   wpAny (model X.prog X.w) X.A (call (.builtin id) (v::us)) (EP X pins σ Q) X.xe s
theorem Vals.one:∀{x:V}{us:List Value},Vals [x] us -> ∃ u,us=[u]/\RelV x u
 | _,_,.cons r .nil=>⟨_,rfl,r⟩
section
variable{X:Cx}{pins:List (Addr×Obj)}{σ:St}{H:Hp}{s:Shared}{l b:Addr}{xs ys zs:List V}
theorem Inv.lset{its its':List Value}{n:Nat}{f:Array Value->Array Value}{t':Nat}(I:Inv X pins σ H s)(hH:H l=some (.lst xs))
 (e:s.heap.get? l=some { cls:=.type "list",data:=.seq its.toArray n }) (hf:f its.toArray=its'.toArray) (hv:Vals ys its') (hz:ys.length<=sizeLine) :
 Inv X pins σ (upd H l (.lst ys)) { s with heap:=s.heap.update l (Obj.mapSeq f),toks:=t' }:=by
 have q:=PySem.IsL.update e f;rw[hf]at q;refine I.write (x:=l) (e:=l) (by rw[hH];exact trivial) (.inl rfl) (fun b' u hb hu=>(Heap.get?_update_other s.heap (Obj.mapSeq f) (Ne.symm hb)).trans hu) ⟨_,q⟩ ?_
 exact⟨hz,its',_,hv,q⟩
theorem Inv.lnew{its:List Value}{t':Nat}(I:Inv X pins σ H s)(hv:Vals ys its)(hz:ys.length<=sizeLine) :
 Inv X pins σ (upd H s.heap.objs.size (.lst ys)) { s with heap:=s.heap.push { cls:=.type "list",data:=.seq its.toArray },toks:=t' }:=
 I.laid (fun _ _ q=>Heap.get?_push_of_some _ q) (Nat.le_refl _) ⟨hz,its,0,hv,Heap.get?_push_size _ rfl⟩
theorem Inv.fresh(I:Inv X pins σ H s):H s.heap.objs.size=none:=I.hok.fresh (Nat.le_refl _)
theorem Inv.lstM(I:Inv X pins σ H s)(hH:H l=some (.lst xs)):xs.length<=sizeLine /\ ∃(its:List Value) (n:Nat),Vals xs its/\xs.length=its.length/\s.heap.get? l=some { cls:=.type "list",data:=.seq its.toArray n }:=by
 obtain⟨z,its,n,r,e⟩:=I.hok l _ hH;exact⟨z,its,n,r,r.length,e⟩
end
section
variable{X:Cx}
noncomputable def rAppend:V->List V->Hp->VK->Prop:=fun x vs H Q=>∃ l xs y,x=.ref l/\vs=[y]/\H l=some (.lst xs)/\xs.length < sizeLine/\Q .non (upd H l (.lst (xs++[y])))
theorem mt_append:MtM X "list.append" rAppend:=by
 intro pins s σ H x vs v us Q I rx rv h;obtain⟨l,xs,y,rfl,rfl,hH,hz,q⟩:=h;cases rx;obtain⟨u,rfl,ru⟩:=rv.one;obtain⟨z,its,n,r,hl,e⟩:=I.lstM hH;refine call_meets F.slot_list_append ⟨_,e,rfl⟩ F.entry_list_append (F.args_list_append_2 _ _) (PySem.list_append l its.toArray n u (by rw[List.size_toArray];omega)) ⟨e,?_⟩
 refine⟨.non,_,I.lset (its':=its++[u]) hH e (by simp) (r.append (.cons ru .nil)) ?_,rfl,q⟩
 rw[List.length_append,List.length_singleton];omega
noncomputable def rCat:R2:=fun x y H Q=>∃ l b xs zs,x=.ref l/\y=.ref b/\H l=some (.lst xs)/\H b=some (.lst zs)/\xs.length+zs.length<=sizeLine /\ ∀ p,H p=none->Q (.ref p) (upd H p (.lst (xs++zs)))
theorem op_cat:OpR X (binaryOp .Add) rCat:=by
 intro pins s σ H x y v u Q I rx ry h;obtain⟨l,b,xs,zs,rfl,rfl,hH,hB,hz,q⟩:=h;cases rx;cases ry;obtain⟨z,its,n,r,hl,e⟩:=I.lstM hH;obtain⟨z2,its2,n2,r2,hl2,e2⟩:=I.lstM hB;refine PySem.P.add_list e e2 ?_ (by rw[List.size_toArray,List.size_toArray];omega)
 have ea:its.toArray++its2.toArray=(its++its2).toArray:=by simp
 rw[ea];exact⟨.ref _,_,I.lnew (t':=s.toks) (r.append r2) (by rw[List.length_append];omega),rfl,q _ I.fresh⟩
end
section
variable{prog:Program}{w:World}{A:Around}{E:Value->Shared->Prop}{s:Shared}
set_option maxRecDepth 100000 in
end
section
variable{X:Cx}
end
end L2
namespace L2
open PySem PySem.Spec PyProof.Rows
section
variable{κ:Type}[DecidableEq κ]
noncomputable def valV(kvs:List (κ × V))(k:κ):Option V:=(kvs.find? fun kv=>decide (kv.1=k)).map (·.2)
noncomputable def putK(kvs:List (κ × V))(k:κ)(v:V):List (κ × V):=
 if(kvs.any fun kv=>decide (kv.1=k))=true then kvs.map (fun kv=>if kv.1=k then(kv.1,v)else kv)else kvs++[(k,v)]
noncomputable def dropK(kvs:List (κ × V))(k:κ):List (κ × V):=kvs.filter fun kv=>decide (kv.1≠k)
theorem valV_pos{p:κ × V}{r:List (κ × V)}{k:κ}(e:p.1=k):valV (p::r) k=some p.2:=by simp[valV,List.find?_cons,e]
theorem valV_neg{p:κ × V}{r:List (κ × V)}{k:κ}(e:¬ p.1=k):valV (p::r) k=valV r k:=by simp[valV,List.find?_cons,e]
theorem valV_any(k:κ):∀ kvs:List (κ × V),(kvs.any fun kv=>decide (kv.1=k))=(valV kvs k).isSome
 | []=>rfl
 | p::r=>by
   rw[List.any_cons];by_cases e:p.1=k
   · simp only[valV_pos e,decide_eq_true e,Bool.true_or,Option.isSome_some]
   rw[valV_neg e,decide_eq_false e,Bool.false_or];exact valV_any k r
theorem valV_map(k j:κ)(y:V):∀ kvs:List (κ × V),valV (kvs.map fun kv=>if kv.1=k then(kv.1,y)else kv) j=(valV kvs j).map fun x=>if j=k then y else x
 | []=>rfl
 | p::r=>by
   have ih:=valV_map k j y r;rw[List.map_cons];by_cases h:p.1=k
   · rw[if_pos h]
     by_cases e:p.1=j
     · rw[valV_pos (p:=(p.1,y)) e,valV_pos e,Option.map_some,if_pos (e.symm.trans h)]
     rw[valV_neg (p:=(p.1,y)) e,valV_neg e,ih]
   rw[if_neg h];by_cases e:p.1=j
   · rw[valV_pos (p:=p) e,valV_pos e,Option.map_some,if_neg (fun z=>h (e.trans z))]
   rw[valV_neg (p:=p) e,valV_neg e,ih]
theorem valV_snoc(k j:κ)(y:V):∀ kvs:List (κ × V),valV kvs k=none->valV (kvs++[(k,y)]) j=if j=k then some y else valV kvs j
 | [],_=>by
   by_cases e:k=j
   · rw[if_pos e.symm];exact valV_pos (p:=(k,y)) e
   rw[if_neg (fun z=>e z.symm)];exact valV_neg (p:=(k,y)) e
 | p::r,hn=>by
   rw[List.cons_append];have hk:¬ p.1=k:=fun z=>by rw[valV_pos z]at hn;cases hn
   rw[valV_neg hk]at hn;have ih:=valV_snoc k j y r hn;by_cases e:p.1=j
   · rw[valV_pos e,valV_pos e,if_neg (fun z=>hk (e.trans z))]
   rw[valV_neg e,valV_neg e,ih]
theorem valV_put(kvs:List (κ × V))(k j:κ)(y:V):valV (putK kvs k y) j=if j=k then some y else valV kvs j:=by
 unfold putK;by_cases a:(kvs.any fun kv=>decide (kv.1=k))=true
 · rw[if_pos a,valV_map]
   rw[valV_any]at a;by_cases e:j=k
   · obtain⟨x,hx⟩:=Option.isSome_iff_exists.mp a
     rw[if_pos e,e,hx,Option.map_some,if_pos rfl]
   rw[if_neg e];cases valV kvs j with
   | none=>rfl
   | some x=>rw[Option.map_some,if_neg e]
 rw[if_neg a];refine valV_snoc k j y kvs ?_;rw[valV_any]at a;cases q:valV kvs k with
 | none=>rfl
 | some x=>rw[q]at a;exact(a rfl).elim
theorem length_putK(kvs:List (κ × V))(k:κ)(v:V):(putK kvs k v).length<=kvs.length+1:=by
 unfold putK;split
 · rw[List.length_map];omega
 rw[List.length_append,List.length_cons,List.length_nil];omega
theorem RelO.isSome_eq{o:Option V}{u:Option Value}(r:RelO o u):o.isSome=u.isSome:=by
 cases o with
 | none=>cases u with
   | none=>rfl
   | some _=>exact(show False from r).elim
 | some _=>cases u with
   | none=>exact(show False from r).elim
   | some _=>rfl
theorem RelO.getD{o:Option V}{u:Option Value}{d:V}{d':Value}(r:RelO o u)(rd:RelV d d'):RelV (o.getD d) (u.getD d'):=by
 cases o with
 | none=>cases u with
   | none=>exact rd
   | some _=>exact(show False from r).elim
 | some _=>cases u with
   | none=>exact(show False from r).elim
   | some _=>exact r
theorem KV.val{kvs:List (κ × V)}{vs:List (κ × Value)}(r:KV kvs vs)(k:κ):RelO (valV kvs k) (valueAt vs k):=by
 unfold KV at r
 induction r with
 | nil=>exact True.intro
 | @cons p q ps qs h t ih=>
   obtain⟨h1,h2⟩:=h;by_cases e:p.1=k
   · have e':q.1=k:=h1.symm.trans e
     have b:valueAt (q::qs) k=some q.2:=by simp[valueAt,List.find?_cons,e']
     rw[valV_pos e,b];exact h2
   have e':¬ q.1=k:=fun z=>e (h1.trans z);have b:valueAt (q::qs) k=valueAt qs k:=by simp[valueAt,List.find?_cons,e']
   rw[valV_neg e,b];exact ih
theorem KV.any{kvs:List (κ × V)}{vs:List (κ × Value)}(r:KV kvs vs)(k:κ):(kvs.any fun kv=>decide (kv.1=k))=vs.any fun kv=>decide (kv.1=k):=by
 unfold KV at r
 induction r with
 | nil=>rfl
 | cons h t ih=>rw[List.any_cons,List.any_cons,ih,h.1]
theorem KV.repl{kvs:List (κ × V)}{vs:List (κ × Value)}(r:KV kvs vs)(k:κ){y:V}{u:Value}(ry:RelV y u) :
 KV (kvs.map fun kv=>if kv.1=k then(kv.1,y)else kv) (vs.map fun kv=>if kv.1=k then(kv.1,u)else kv):=by
 unfold KV at r ⊢
 induction r with
 | nil=>exact .nil
 | @cons p q ps qs h t ih=>
   rw[List.map_cons,List.map_cons];refine .cons ?_ ih;obtain⟨h1,h2⟩:=h;by_cases e:p.1=k
   · rw[if_pos e,if_pos (h1.symm.trans e)];exact⟨h1,ry⟩
   rw[if_neg e,if_neg (fun z=>e (h1.trans z))];exact⟨h1,h2⟩
theorem KV.put{kvs:List (κ × V)}{vs:List (κ × Value)}(r:KV kvs vs)(k:κ){y:V}{u:Value}(ry:RelV y u):KV (putK kvs k y) (stored vs k u):=by
 unfold putK stored;rw[r.any k];by_cases e:(vs.any fun kv=>decide (kv.1=k))=true
 · rw[if_pos e,if_pos e];exact r.repl k ry
 rw[if_neg e,if_neg e];exact Paired.snoc r ⟨rfl,ry⟩
theorem KV.drop{kvs:List (κ × V)}{vs:List (κ × Value)}(r:KV kvs vs)(k:κ):KV (dropK kvs k) (without vs k):=by
 unfold KV at r ⊢;unfold dropK without
 induction r with
 | nil=>exact .nil
 | @cons p q ps qs h t ih=>
   obtain⟨h1,h2⟩:=h;rw[List.filter_cons,List.filter_cons];by_cases e:p.1=k
   · have a:¬ decide (p.1≠k)=true:=by simp[e]
     have b:¬ decide (q.1≠k)=true:=by simp[h1.symm.trans e]
     rw[if_neg a,if_neg b];exact ih
   have e':¬ q.1=k:=fun z=>e (h1.trans z);have a:decide (p.1≠k)=true:=by simp[e]
   have b:decide (q.1≠k)=true:=by simp[e']
   rw[if_pos a,if_pos b];exact .cons ⟨h1,h2⟩ ih
theorem KV.length{kvs:List (κ × V)}{vs:List (κ × Value)}(r:KV kvs vs):kvs.length=vs.length:=Paired.length r
theorem dropK_le(kvs:List (κ × V))(k:κ):(dropK kvs k).length<=kvs.length:=List.length_filter_le _ _
end
theorem kV_is{P:Program}{w:World}{k:Key}{u:Value}(r:RelV (kV k) u):(mixKind P w).is k u=true:=by
 cases k with
 | inl i=>obtain⟨t,e⟩:=(show ∃ t,u=Value.int i t from r);subst e;exact mixKind_int P w i t
 | inr x=>obtain⟨t,e⟩:=(show ∃ t,u=Value.str x t from r);subst e;exact mixKind_str P w x t
theorem items_are{P:Program}{w:World}:∀{ks:List Key}{us:List Value},Vals (ks.map kV) us->ItemsAre (mixKind P w) ks us
 | [],_,r=>by rw[List.map_nil]at r;cases r;exact .nil
 | k::ks,_,r=>by
   rw[List.map_cons]at r;cases r with
   | cons h t=>exact .cons (kV_is h) (items_are t)
noncomputable abbrev KT(H:Hp):List (List Key×V)->List (List Key×Addr×Value)->Prop:=Paired fun p q=>p.1=q.1/\H q.2.1=some (.tup (p.1.map kV))/\RelV p.2 q.2.2
theorem KT.val{H:Hp}{kvs:List (List Key×V)}{xs:List (List Key×Addr×Value)}(r:KT H kvs xs)(k:List Key):RelO (valV kvs k) ((atKey xs k).map (·.2)):=by
 induction r with
 | nil=>exact True.intro
 | @cons p q ps qs h t ih=>
   obtain⟨h1,_,h2⟩:=h;by_cases e:p.1=k
   · have e':q.1=k:=h1.symm.trans e
     have b:atKey (q::qs) k=some q.2:=by simp[atKey,List.find?_cons,e']
     rw[valV_pos e,b];exact h2
   have e':¬ q.1=k:=fun z=>e (h1.trans z);have b:atKey (q::qs) k=atKey qs k:=by simp[atKey,List.find?_cons,e']
   rw[valV_neg e,b];exact ih
theorem KT.repl{H:Hp}{kvs:List (List Key×V)}{xs:List (List Key×Addr×Value)}(r:KT H kvs xs)(k:List Key){y:V}{u:Value}(ry:RelV y u) :
 KT H (kvs.map fun kv=>if kv.1=k then(kv.1,y)else kv) (xs.map (putAt k u)):=by
 induction r with
 | nil=>exact .nil
 | @cons p q ps qs h t ih=>
   rw[List.map_cons,List.map_cons];refine .cons ?_ ih;obtain⟨h1,h2,h3⟩:=h;unfold putAt;by_cases e:p.1=k
   · rw[if_pos e,if_pos (h1.symm.trans e)];exact⟨h1,h2,ry⟩
   rw[if_neg e,if_neg (fun z=>e (h1.trans z))];exact⟨h1,h2,h3⟩
theorem KT.put{H:Hp}{kvs:List (List Key×V)}{xs:List (List Key×Addr×Value)}(r:KT H kvs xs)(k:List Key){b:Addr}{y:V}{u:Value}(hb:H b=some (.tup (k.map kV)))(ry:RelV y u) :
 KT H (putK kvs k y) (storedH xs k b u):=by
 have e:(kvs.any fun kv=>decide (kv.1=k))=(atKey xs k).isSome:=by
  rw[valV_any,(r.val k).isSome_eq,Option.isSome_map]
 unfold putK storedH;rw[e];by_cases q:(atKey xs k).isSome=true
 · rw[if_pos q,if_pos q];exact r.repl k ry
 rw[if_neg q,if_neg q];exact Paired.snoc r ⟨rfl,hb,ry⟩
theorem KT.keeps{H H':Hp}{kvs:List (List Key×V)}{xs:List (List Key×Addr×Value)}(r:KT H kvs xs)(ht:∀ b ys,H b=some (.tup ys)->H' b=some (.tup ys)):KT H' kvs xs:=
 Paired.mapP r fun _ _ z=>⟨z.1,ht _ _ z.2.1,z.2.2⟩
section
variable{P:Program}{w:World}{H:Hp}{h:Heap}{a:Addr}
theorem rd_of{u:HO}(ok:HOk P w H h)(e:Rd H a u):ObjOk P w H h a u:=e.ok ok
theorem dk_rd{kvs:List (Key×V)}(ok:HOk P w H h)(e:Rd H a (.dK kvs)):kvs.length<=sizeLine/\(a == sysModules)=false /\ ∃ vs,KV kvs vs/\h.DictOf (mixKind P w) a vs:=
 show ObjOk P w H h a (.dK kvs)from rd_of ok e
theorem dk_of{kvs:List (Key×V)}(ok:HOk P w H h)(e:H a=some (.dK kvs)):kvs.length<=sizeLine/\(a == sysModules)=false /\ ∃ vs,KV kvs vs/\h.DictOf (mixKind P w) a vs:=dk_rd ok (.inl e)
theorem key_of{ks:List Key}(ok:HOk P w H h)(e:H a=some (.tup (ks.map kV))):(tupleKind (mixKind P w)).is h ks a:=by
 obtain⟨_,its,r,o,h1,h2,n,h3⟩:=(show ObjOk P w H h a (.tup (ks.map kV))from ok a _ e);exact⟨o,its.toArray,n,h1,h2,h3,by simpa using items_are r⟩
theorem dt_rd{kvs:List (List Key×V)}(ok:HOk P w H h)(e:Rd H a (.dT kvs)):kvs.length<=sizeLine/\(a == sysModules)=false /\
 ∃ xs,KT H kvs xs/\h.DictOfH (tupleKind (mixKind P w)) a xs:=by
 obtain⟨z,y,xs,r,o,es,ep,h1,h2,h3,h4,h5⟩:=(show ObjOk P w H h a (.dT kvs)from rd_of ok e);refine⟨z,y,xs,r,o,es,ep,h1,h2,h3,h4,fun x hx=>?_,h5⟩;have all:∀{l:List (List Key×V)}{m:List (List Key×Addr×Value)},KT H l m -> ∀ x∈m,(tupleKind (mixKind P w)).is h x.1 x.2.1:=by
  intro l m q
  induction q with
  | nil=>intro x hx;exact nomatch hx
  | @cons p q ps qs hq t ih=>
    intro x hx;rcases List.mem_cons.mp hx with e | hx
    · subst e
      exact key_of ok (by rw[← hq.1];exact hq.2.1)
    exact ih x hx
 exact all r x hx
theorem dt_of{kvs:List (List Key×V)}(ok:HOk P w H h)(e:H a=some (.dT kvs)):kvs.length<=sizeLine/\(a == sysModules)=false /\
 ∃ xs,KT H kvs xs/\h.DictOfH (tupleKind (mixKind P w)) a xs:=dt_rd ok (.inl e)
end
noncomputable def DGet(H:Hp)(a:Addr)(y:V)(r:Option V):Prop:=
 (∃ kvs k,Rd H a (.dK kvs)/\y=kV k/\r=valV kvs k) ∨ ∃ kvs k b,Rd H a (.dT kvs)/\y=.ref b/\H b=some (.tup (k.map kV))/\r=valV kvs k
noncomputable def DPut(H:Hp)(a:Addr)(y v:V)(H':Hp):Prop:=
 (∃ kvs k,H a=some (.dK kvs)/\y=kV k/\kvs.length < sizeLine/\H'=upd H a (.dK (putK kvs k v))) ∨
 ∃ kvs k b,H a=some (.dT kvs)/\y=.ref b/\H b=some (.tup (k.map kV))/\kvs.length < sizeLine/\H'=upd H a (.dT (putK kvs k v))
theorem DGet.k{H:Hp}{a:Addr}{kvs:List (Key×V)}{k:Key}(e:H a=some (.dK kvs)):DGet H a (kV k) (valV kvs k):=.inl ⟨kvs,k,.inl e,rfl,rfl⟩
theorem DPut.k{H:Hp}{a:Addr}{kvs:List (Key×V)}{k:Key}{v:V}(e:H a=some (.dK kvs))(hl:kvs.length < sizeLine):DPut H a (kV k) v (upd H a (.dK (putK kvs k v))):=.inl ⟨kvs,k,e,rfl,hl,rfl⟩
section
variable{X:Cx}{pins:List (Addr×Obj)}{σ:St}{H:Hp}{s:Shared}{a:Addr}{y v:V}{u r:Value}{o:Option V}{A:Around}{E:Value->Shared->Prop}
theorem Inv.big(I:Inv X pins σ H s):sysModules < s.heap.objs.size:=by
 have h:mainGlobals < s.heap.objs.size:=(I.mod.glob.keeps I.bk).lt;exact Nat.lt_trans (by decide) h
theorem d_getItem{Q:Value->Shared->Prop}(hu:A.units+1 < cLine)(I:Inv X pins σ H s)(g:DGet H a y (some v))(ry:RelV y u)(h:∀ w' s',Inv X pins σ H s'->RelV v w'->Q w' s') :
 wpAny (model X.prog X.w) A (getItem (.ref a) u) Q E s:=by
 rcases g with ⟨kvs,k,e,ey,l⟩ | ⟨kvs,k,b,e,ey,eb,l⟩
 · subst ey
   obtain⟨z,hd,vs,rel,dd⟩:=dk_rd I.hok e;obtain⟨w',hw,rw'⟩:=RelO.some_of (v:=v) (o:=valueAt vs k) (by rw[l];exact rel.val k)
   exact wpAny_getItem_of (kV_is ry) dd.mapOf hw (h w' _ (I.tok _) rw')
 subst ey;cases (show u=Value.ref b from ry);obtain⟨z,hd,xs,rel,dd⟩:=dt_rd I.hok e;obtain⟨w',hw,rw'⟩:=RelO.some_of (v:=v) (o:=(atKey xs k).map (·.2)) (by rw[l];exact rel.val k)
 obtain⟨p,hp,hp2⟩:=Option.map_eq_some_iff.mp hw;refine wpAny_getItem_heap (tupleKind_room_in1 hu) (key_of I.hok eb) dd hp ?_;rw[hp2];exact h w' _ (I.tok _) rw'
theorem d_write{h':Heap}{t':Nat}{ob:HO}(I:Inv X pins σ H s)(mu:Mut (H a))(hs:Heap.SameBut a s.heap h')(he:∃ q,h'.get? a=some q)(new:ObjOk X.prog X.w (upd H a ob) h' a ob) :
 Inv X pins σ (upd H a ob) { s with heap:=h',toks:=t' }:=
 I.write (x:=a) (e:=a) mu (.inl rfl) (fun b q hb z=>(hs.2 b hb).trans z) he new
theorem dk_new{P:Program}{w:World}{H':Hp}{h':Heap}{kvs:List (Key×V)}{vs:List (Key×Value)}(z:kvs.length<=sizeLine)(hd:(a == sysModules)=false)(rel:KV kvs vs)(dd:h'.DictOf (mixKind P w) a vs) :
 ObjOk P w H' h' a (.dK kvs):=⟨z,hd,vs,rel,dd⟩
theorem d_setItem{H':Hp}{Q:Unit->Shared->Prop}(hu:A.units+1 < cLine)(I:Inv X pins σ H s)(g:DPut H a y v H')(ry:RelV y u)(rv:RelV v r)(h:∀ s',Inv X pins σ H' s'->Q () s') :
 wpAny (model X.prog X.w) A (setItem (.ref a) u r) Q E s:=by
 rcases g with ⟨kvs,k,e,ey,l,eH⟩ | ⟨kvs,k,b,e,ey,eb,l,eH⟩
 · subst ey eH
   obtain⟨z,hd,vs,rel,dd⟩:=dk_of I.hok e;have hz:vs.length<=sizeLine:=by rw[← rel.length];exact z
   have hl:(putK kvs k v).length<=sizeLine:=by have:=length_putK kvs k v;omega
   refine wpAny_setItem_pairs (hsz:=hz) (kV_is ry) dd fun h' dd' hs=>h _ ?_;have he:∃ q,h'.get? a=some q:=let⟨q,_,_,hq,_⟩:=dd';⟨q,hq⟩;exact d_write I (by rw[e];exact True.intro) hs he (dk_new hl hd (rel.put k rv) dd')
 subst ey eH;cases (show u=Value.ref b from ry);obtain⟨z,hd,xs,rel,dd⟩:=dt_of I.hok e;have hz:xs.length<=sizeLine:=by rw[← Paired.length rel];exact z
 have hl:(putK kvs k v).length<=sizeLine:=by have:=length_putK kvs k v;omega
 refine wpAny_setItem_heap (hsz:=hz) (tupleKind_room_in1 hu) (key_of I.hok eb) dd fun h' dd' hs=>h _ ?_;obtain⟨q,es,ep,hq,h2,h3,h4,_,h5⟩:=dd';refine d_write I (by rw[e];exact True.intro) hs ⟨q,hq⟩ ⟨hl,hd,_,(rel.put k eb rv).keeps fun c ys ec=>?_,q,es,ep,hq,h2,h3,h4,h5⟩
 rw[upd_ne (ne_of ec e (fun z=>nomatch z))];exact ec
end
section
variable{X:Cx}{pins:List (Addr×Obj)}{σ:St}{H:Hp}{s:Shared}{a:Addr}{kvs:List (Key×V)}{k:Key}{u:Value}{A:Around}{E:Value->Shared->Prop}
theorem d_pop{v:V}{more:List Value}{Q:Value->Shared->Prop}(I:Inv X pins σ H s)(e:H a=some (.dK kvs))(ry:RelV (kV k) u)(l:valV kvs k=some v)(hm:more=[] ∨ ∃ x,more=[x])
 (h:∀ w' s',Inv X pins σ (upd H a (.dK (dropK kvs k))) s'->RelV v w'->Q w' s'):wpAny (model X.prog X.w) A (call (.builtin "dict.pop") (.ref a::u::more)) Q E s:=by
 obtain⟨z,hd,vs,rel,dd⟩:=dk_of I.hok e;obtain⟨w',hw,rw'⟩:=RelO.some_of (v:=v) (o:=valueAt vs k) (by rw[← l];exact rel.val k)
 have hp:(keyPart u).isSome=true:=by
  cases k with
  | inl i=>obtain⟨t,q⟩:=(show ∃ t,u=Value.int i t from ry);subst q;rfl
  | inr x=>obtain⟨t,q⟩:=(show ∃ t,u=Value.str x t from ry);subst q;rfl
 have ha:argsOk "dict.pop" ⟨.ref a::u::more,[]⟩:=by
  rcases hm with q | ⟨x,q⟩
  · subst q;exact PySem.F.args_dict_pop_2 _ _
  subst q;exact PySem.F.args_dict_pop_3 _ _ _
 refine call_meetsIn PySem.F.slot_dict_pop dd.typeIs PySem.F.entry_dict_pop ha (meets_dict_pop_there (mixKind X.prog X.w) a (kV_is ry) more hm hp)
  ⟨vs,w',dd,by rw[← rel.length];exact z,hw,fun h' dd' hs=>h w' _ ?_ rw'⟩
 have he:∃ q,h'.get? a=some q:=let⟨q,_,_,hq,_⟩:=dd';⟨q,hq⟩;exact d_write I (by rw[e];exact True.intro) hs he (dk_new (Nat.le_trans (dropK_le kvs k) z) hd (rel.drop k) dd')
theorem d_popD{r:Value}{Q:Value->Shared->Prop}(I:Inv X pins σ H s)(e:H a=some (.dK kvs))(ry:RelV (kV k) u)(l:valV kvs k=none)(h:∀ s',Inv X pins σ H s'->Q r s') :
 wpAny (model X.prog X.w) A (call (.builtin "dict.pop") [.ref a,u,r]) Q E s:=by
 obtain⟨z,hd,vs,rel,dd⟩:=dk_of I.hok e;have hn:valueAt vs k=none:=RelO.none_of (by rw[← l];exact rel.val k)
 have hp:(keyPart u).isSome=true:=by
  cases k with
  | inl i=>obtain⟨t,q⟩:=(show ∃ t,u=Value.int i t from ry);subst q;rfl
  | inr x=>obtain⟨t,q⟩:=(show ∃ t,u=Value.str x t from ry);subst q;rfl
 exact call_meetsIn PySem.F.slot_dict_pop dd.typeIs PySem.F.entry_dict_pop (PySem.F.args_dict_pop_3 _ _ _) (meets_dict_pop_default (mixKind X.prog X.w) a (kV_is ry) hd hp r) ⟨vs,dd,hn,h _ (I.tok _)⟩
theorem d_len{Q:Value->Shared->Prop}(I:Inv X pins σ H s)(e:Rd H a (.dK kvs))(h:∀ t s',Inv X pins σ H s'->Q (.int kvs.length t) s'):wpAny (model X.prog X.w) A (call (.builtin "len") [.ref a]) Q E s:=by
 obtain⟨z,hd,vs,rel,dd⟩:=dk_rd I.hok e;refine call_len_dict hd dd (by rw[← rel.length];rw[sizeLine_eq]at z;omega) ?_
 rw[← rel.length];exact h _ _ (I.tok _)
end
noncomputable def NoSl(i:Expr):Prop:=∀ ov iv,subscripted i false ov iv=operate [ov,iv] (getItem ov iv)
theorem subD_of{prog:Program}{w:World}{A:Around}{E:Value->Shared->Prop}{s:Shared}{env:Env}{value slice:Expr}{pos:Pos}{T id:String}{Q:Value->Shared->Prop}
 (hl:typeLookup (.type T) "__getitem__"=pure (some (.builtin id))) (hs:NoSl slice)
 (h:wpAny (model prog w) A (eval value env) (fun o s₁=>wpAny (model prog w) A (eval slice env) (fun i s₂=>s₂.TypeIs o T/\wpAny (model prog w) A (getItem o i) Q E s₂) E s₁) E s) :
 wpAny (model prog w) A (eval (.Subscript value slice pos) env) Q E s:=by
 refine Subscript_ (wpAny_mono h (fun o s₁ h₁=>wpAny_mono h₁ (fun i s₂ h₂=>?_) fun _ _ x=>x) fun _ _ x=>x);obtain⟨hT,h₂⟩:=h₂;unfold subscriptTail;refine wpAny_bind ?_;rw[getitemInPython_of_ne hT.not_modules];refine wpAny_bind (wpAny_specialOf hT hl ?_);have fin:wpAny (model prog w) A (subscripted slice false o i) (fun r s₃=>wpAny (model prog w) A (letTemporaryGo value o r >>= fun _=>pure r) Q E s₃) E s₂:=by
  rw[hs o i];exact wpAny_operating (wpAny_mono h₂ (fun r s₃ h₃=>wpAny_bind (wpAny_letTemporaryGo (wpAny_pure h₃))) fun _ _ x=>x)
 first
  | exact wpAny_pure (wpAny_bind fin)
  | exact wpAny_bind (wpAny_pure (wpAny_bind fin))
  | exact wpAny_bind fin
theorem dict_typeIs{X:Cx}{pins:List (Addr×Obj)}{σ:St}{H:Hp}{s:Shared}{a:Addr}{y:V}{o:Option V}(I:Inv X pins σ H s)(g:DGet H a y o):s.TypeIs (.ref a) "dict":=by
 rcases g with ⟨kvs,k,e,_,_⟩ | ⟨kvs,k,b,e,_,_,_⟩
 · obtain⟨_,_,vs,_,dd⟩:=dk_rd I.hok e
   exact dd.typeIs
 obtain⟨_,_,xs,_,dd⟩:=dt_rd I.hok e;exact dd.typeIs
noncomputable def tDGet(td ty:TE):TE:=fun σ H Q=>td σ H fun x H1=>ty σ H1 fun y H2=>∃ a v,x=.ref a/\DGet H2 a y (some v)/\Q v H2
noncomputable def sDPut(td ty tv:TE):TS:=fun D σ H=>tv σ H fun v H1=>td σ H1 fun x H2=>ty σ H2 fun y H3=>∃ a H4,x=.ref a/\DPut H3 a y v H4/\D.nx σ H4
section
variable{X:Cx}{o i e value:Expr}{pos pos' tpos:Pos}{td ty tv:TE}
theorem pe_dget(hu:X.A.units+1 < cLine)(ho:PE X o td)(hi:PE X i ty)(hs:NoSl i):PE X (.Subscript o i pos) (tDGet td ty):=by
 intro pins s σ H Q I h;refine subD_of PySem.F.slot_dict_getitem.lookup hs (thn (ho pins s σ H _ I h) fun u s1 ⟨x,H1,I1,rx,q1⟩=>thn (hi pins s1 σ H1 _ I1 q1) fun iv s2 zz=>?_);obtain⟨y,H2,I2,ry,a,v,ex,g,q2⟩:=zz;subst ex;obtain rfl:u=Value.ref a:=rx;exact⟨dict_typeIs I2 g,d_getItem hu I2 g ry fun w' s3 I3 rw'=>⟨v,H2,I3,rw',q2⟩⟩
theorem ps_dput(hu:X.A.units+1 < cLine)(ho:PE X o td)(hi:PE X i ty)(hv:PE X value tv)(hs:swapsWith value (some (.Subscript o i pos')) pos.line X.env=pure false) :
 PS X (.Assign [.Subscript o i pos'] value pos) (sDPut td ty tv):=by
 intro pins s σ H D I h;refine wpAny_Assign_Subscript (thn (hv pins s σ H _ I h) fun r s1 ⟨v,H1,I1,rv,q1⟩=>thn (ho pins s1 σ H1 _ I1 q1) fun u s2 ⟨x,H2,I2,rx,q2⟩=>thn (hi pins s2 σ H2 _ I2 q2) fun iv s3 ⟨y,H3,I3,ry,a,H4,ex,g,q3⟩=>?_) hs;subst ex;obtain rfl:u=Value.ref a:=rx;exact d_setItem hu I3 g ry rv fun s4 I4=>⟨σ,H4,I4,q3⟩
end
theorem dk_empty{P:Program}{w:World}{H:Hp}(h:Heap)(hb:sysModules < h.objs.size):ObjOk P w H (h.push { cls:=.type "dict",data:=.dict #[] }) h.objs.size (.dK []):=
 ⟨Nat.zero_le _,beq_eq_false_iff_ne.mpr (Ne.symm (Nat.ne_of_lt hb)),[],.nil,Heap.DictOf.new h⟩
noncomputable def tDNewK:TE:=fun _ H Q=>∀ p,H p=none->Q (.ref p) (upd H p (.dK []))
section
variable{X:Cx}{pos:Pos}
theorem pe_dnewK:PE X (.Dict [] [] pos) tDNewK:=fun pins s σ H Q I h=>
 wpAny_Dict_empty ⟨.ref s.heap.objs.size,_,I.laid (a:=s.heap.objs.size) (o:=.dK []) (t':=s.toks) (fun _ _ q=>Heap.get?_push_of_some _ q) (Nat.le_refl _) (dk_empty s.heap I.big),rfl,h _ (I.hok.fresh (Nat.le_refl _))⟩
end
structure M1(X:Cx)(o:Expr)(m:Str)(apos:Pos)(e:Expr)(cpos:Pos):Prop where
 base:attributeBase o m X.env (eval o X.env)=eval o X.env
 few:((backTo cpos (starEach [e] X.env)).all (fun x=>!x.1) && (backToKw cpos (keywordEach [] X.env)).all (fun x=>x.1.isSome)
  && decide (([e]:List Expr).length+([]:List Keyword).length+(if([]:List Keyword).isEmpty then 0 else 1) < 30))=true
 line:(apos.endLine == cpos.line)=true
 trees:backTo cpos (starEach [e] X.env)=[(false,eval e X.env)]
structure M2(X:Cx)(o:Expr)(m:Str)(apos:Pos)(e f:Expr)(cpos:Pos):Prop where
 base:attributeBase o m X.env (eval o X.env)=eval o X.env
 few:((backTo cpos (starEach [e,f] X.env)).all (fun x=>!x.1) && (backToKw cpos (keywordEach [] X.env)).all (fun x=>x.1.isSome)
  && decide (([e,f]:List Expr).length+([]:List Keyword).length+(if([]:List Keyword).isEmpty then 0 else 1) < 30))=true
 line:(apos.endLine == cpos.line)=true
 trees:backTo cpos (starEach [e,f] X.env)=[(false,eval e X.env),(false,eval f X.env)]
noncomputable def IsD(H:Hp)(a:Addr):Prop:=(∃ kvs,Rd H a (.dK kvs)) ∨ ∃ kvs,Rd H a (.dT kvs)
theorem isD_at{X:Cx}{pins:List (Addr×Obj)}{σ:St}{H:Hp}{s:Shared}{a:Addr}(I:Inv X pins σ H s)(d:IsD H a) :
 s.TypeIs (.ref a) "dict" /\ (∀ b,Value.ref a=.ref b -> ∃ ob,s.heap.get? b=some ob/\ob.dict=none)/\(a == sysModules)=false:=by
 rcases d with ⟨kvs,e⟩ | ⟨kvs,e⟩
 · obtain⟨_,hd,vs,_,dd⟩:=dk_rd I.hok e
   refine⟨dd.typeIs,fun b q=>?_,hd⟩;cases q;obtain⟨ob,_,_,h1,h2,_⟩:=dd;exact⟨ob,h1,h2.2.1⟩
 obtain⟨_,hd,xs,_,dd⟩:=dt_rd I.hok e;refine⟨dd.typeIs,fun b q=>?_,hd⟩;cases q;obtain⟨ob,_,_,h1,h2,_⟩:=dd;exact⟨ob,h1,h2.2.1⟩
section
variable{X:Cx}{pins:List (Addr×Obj)}{σ:St}{H:Hp}{s:Shared}{a:Addr}{y d:V}{u r:Value}{o:Option V}{A:Around}{E:Value->Shared->Prop}
theorem d_get1{Q:Value->Shared->Prop}(hu:A.units+1 < cLine)(I:Inv X pins σ H s)(g:DGet H a y o)(ry:RelV y u)(h:∀ w' s',Inv X pins σ H s'->RelV (o.getD .non) w'->Q w' s') :
 wpAny (model X.prog X.w) A (call (.builtin "dict.get") [.ref a,u]) Q E s:=by
 rcases g with ⟨kvs,k,e,ey,l⟩ | ⟨kvs,k,b,e,ey,eb,l⟩
 · subst ey
   obtain⟨z,hd,vs,rel,dd⟩:=dk_rd I.hok e;refine call_meetsIn PySem.F.slot_dict_get dd.typeIs PySem.F.entry_dict_get (PySem.F.args_dict_get_2 _ _) (meets_dict_get (mixKind X.prog X.w) a (kV_is ry) hd) ⟨_,dd.mapOf,h _ _ (I.tok _) ?_⟩;rw[l];exact(rel.val k).getD rfl
 subst ey;cases (show u=Value.ref b from ry);obtain⟨z,hd,xs,rel,dd⟩:=dt_rd I.hok e;refine call_meetsIn PySem.F.slot_dict_get dd.typeIs PySem.F.entry_dict_get (PySem.F.args_dict_get_2 _ _) (meetsH_dict_get (tupleKind (mixKind X.prog X.w)) a b hd) ⟨tupleKind_room_in1 hu,k,xs,key_of I.hok eb,dd,h _ _ (I.tok _) ?_⟩;rw[l];exact(rel.val k).getD rfl
end
noncomputable def tDGet1(td ty:TE):TE:=fun σ H Q=>td σ H fun x H1=>∃ a,x=.ref a/\IsD H1 a/\ty σ H1 fun y H2=>∃ o,DGet H2 a y o/\Q (o.getD .non) H2
noncomputable def tDPop2(td ty tx:TE):TE:=fun σ H Q=>td σ H fun x H1=>∃ a,x=.ref a/\IsD H1 a/\ty σ H1 fun y H2=>tx σ H2 fun z H3=>∃ kvs k,H3 a=some (.dK kvs)/\y=kV k /\
 (∀ v,valV kvs k=some v->Q v (upd H3 a (.dK (dropK kvs k))))/\(valV kvs k=none->Q z H3)
section
variable{X:Cx}{o e f:Expr}{apos cpos:Pos}{td ty tx:TE}
theorem pe_dget1(hu:X.A.units+1 < cLine)(ho:PE X o td)(he:PE X e ty)(m:M1 X o "get" apos e cpos):PE X (.Call (.Attribute o "get" apos) [e] [] cpos) (tDGet1 td ty):=by
 intro pins s σ H Q I h;refine wpAny_Call_method m.base m.few m.line PySem.F.plainAttrs_dict PySem.F.slot_dict_get PySem.F.type_dict_get (thn (ho pins s σ H _ I h) fun u s1 zz=>?_);obtain⟨x,H1,I1,rx,a,ex,d,q1⟩:=zz;subst ex;obtain rfl:u=Value.ref a:=rx;obtain⟨t1,t2,_⟩:=isD_at I1 d;refine⟨t1,t2,?_⟩;rw[m.trees];refine Calls.callWith_builtin rfl (Calls.evalArgs_plain (Calls.spliced_cons (thn (he pins s1 σ H1 _ I1 q1) fun iv s2 ⟨y,H2,I2,ry,ov,g,q2⟩=>Calls.spliced_nil ?_)));exact d_get1 hu I2 g ry fun w' s3 I3 rw'=>⟨_,H2,I3,rw',q2⟩
theorem pe_dpop2(ho:PE X o td)(he:PE X e ty)(hf:PE X f tx)(m:M2 X o "pop" apos e f cpos):PE X (.Call (.Attribute o "pop" apos) [e,f] [] cpos) (tDPop2 td ty tx):=by
 intro pins s σ H Q I h;refine wpAny_Call_method m.base m.few m.line PySem.F.plainAttrs_dict PySem.F.slot_dict_pop PySem.F.type_dict_pop (thn (ho pins s σ H _ I h) fun u s1 zz=>?_);obtain⟨x,H1,I1,rx,a,ex,d,q1⟩:=zz;subst ex;obtain rfl:u=Value.ref a:=rx;obtain⟨t1,t2,_⟩:=isD_at I1 d;refine⟨t1,t2,?_⟩;rw[m.trees];refine Calls.callWith_builtin rfl (Calls.evalArgs_plain (Calls.spliced_cons (thn (he pins s1 σ H1 _ I1 q1) fun iv s2 ⟨y,H2,I2,ry,q2⟩=>
  Calls.spliced_cons (thn (hf pins s2 σ H2 _ I2 q2) fun fv s3 ⟨z,H3,I3,rz,kvs,k,ea,ey,q3,q4⟩=>Calls.spliced_nil ?_))))
 subst ey;cases l:valV kvs k with
 | some v=>exact d_pop I3 ea ry l (.inr ⟨fv,rfl⟩) fun w' s4 I4 rw'=>⟨v,_,I4,rw',q3 v l⟩
 | none=>exact d_popD I3 ea ry l fun s4 I4=>⟨z,H3,I4,rz,q4 l⟩
end
section
variable{X:Cx}{pins:List (Addr×Obj)}{σ:St}{H:Hp}{s:Shared}{a:Addr}{kvs:List (Key×V)}{A:Around}{E:Value->Shared->Prop}
theorem d_copyOf{Q:Value->Shared->Prop}(I:Inv X pins σ H s)(e:Rd H a (.dK kvs))(h:∀ p s',H p=none->Inv X pins σ (upd H p (.dK kvs)) s'->Q (.ref p) s'):wpAny (model X.prog X.w) A (call (.type "dict") [.ref a]) Q E s:=by
 obtain⟨z,hd,vs,rel,dd⟩:=dk_rd I.hok e;refine kt_call_dict hd dd (by rw[← rel.length];exact z) fun h' dd' hs=>?_
 refine h _ _ (I.hok.fresh (Nat.le_refl _)) (I.laid (a:=s.heap.objs.size) (o:=.dK kvs) (t':=s.toks) (fun b q hq=>?_) (Nat.le_refl _) (dk_new z (beq_eq_false_iff_ne.mpr (Ne.symm (Nat.ne_of_lt I.big))) rel dd'));exact(hs.2 b (Nat.ne_of_lt (Heap.lt_size hq))).trans (Heap.get?_push_of_some _ hq)
end
section
variable{X:Cx}{pins:List (Addr×Obj)}{σ:St}{H:Hp}{s:Shared}{a:Addr}{y:V}{u:Value}{A:Around}{E:Value->Shared->Prop}
end
end L2
namespace Att
open PySem PySem.W PySem.Calls PyProof.Rows
theorem ints_of_wellAll{P:Params}{h:Heap}:∀(ns:List Int) (vs:List Value),WellAll P h vs (ns.map WData.int)->IntsAre vs ns:=by
 intro ns
 induction ns with
 | nil=>
   intro vs w;rw[List.map_nil]at w;cases w;exact .nil
 | cons n ns ih=>
   intro vs w;rw[List.map_cons]at w;cases w with
   | cons a b=>
     cases a;exact .cons _ _ (ih _ b)
theorem script_of{l:OpenLaw}{n:Nat}(hn:l.most=some n){P:Params}{h:Heap}{args:List WData}{vals:List Value}
 (hpre:l.row.toRowW.claim.pre args=true) (hwl:WellAll P h vals args) :
 ∃ a vs ns,vals=[Value.ref a]/\args=[WData.list (ns.map WData.int)]/\h.get? a=some { cls:=.type "list",data:=.seq vs.toArray } /\ IntsAre vs ns/\ns.length<=n:=by
 have hsh:WShape.hasAll [] args [.list .int]=true:=(pre_splitW hpre).1;have hc:l.pre.holds [] { args:=args }=true:=(pre_splitW hpre).2;obtain⟨d,r,rfl,h1,h2⟩:=hasAllW_cons hsh;obtain rfl:=hasAllW_nil h2;obtain⟨xs,rfl,h3⟩:=hasW_list h1;obtain⟨ns,rfl⟩:=items_int h3;have hlen:ns.length<=n:=by
  unfold OpenLaw.pre at hc;have h4:(WTm.not (.lt (.lit (.int (n:Int))) (.len (.arg 0)))).holds [] { args:=[.list (ns.map .int)] }=true:=by
   have h4:=(holds_andW hc).1;rw[hn]at h4;exact h4
  have h5:=condW_of h4 (w_not (w_lt w_lit (w_len_list (w_arg rfl))));rw[List.length_map]at h5;refine Nat.le_of_not_lt fun q=>?_;have q':(n:Int) < ((ns.length:Nat):Int):=by omega
  first
   | (rw[decide_eq_true q']at h5;exact absurd h5 (by decide))
   | (simp at h5;omega)
 cases hwl with
 | cons w1 w2=>
   cases w2;cases w1 with
   | list ho hall=>exact⟨_,_,ns,rfl,rfl,ho,ints_of_wellAll ns _ hall,hlen⟩
theorem post_true(l:OpenLaw)(args:List WData):l.row.toRowW.claim.post args (.bool true) args=true:=
 postW_of (r:=l.row.toRowW) (X:=(true == true))
  (show WShape.has [] (.bool true) .bool=true by first | rfl | decide | simp[WShape.has,WShape.arms,WShape.armsAll])
  (show(WTm.eq .res (.lit (.bool true))).value [] { args:=args,res:=some (.bool true),after:=args }=some (.bool (true == true))from w_eq_bool (w_res rfl) w_lit) rfl
theorem attach_call{l:OpenLaw}{n:Nat}{q:Program}{loose:List Str}{XP:(Str->Option Value)->Heap->Prop}{YP:World->Heap->Prop}{d:DefRec}
 (hn:l.most=some n) (hdf:d.params.defaults=[])
 (call:∀(w:World) (s₀ s₁:Shared) (mg mb:Str->Option Value) (fa:Addr) (o:Obj) (pm cd doc:Value) (a:Addr) (vs:List Value) (ns:List Int),
  Ground q loose [] XP w s₀ mg mb s₁.heap->YP w s₁.heap ->
  s₁.heap.get? fa=some o->o.data=.func (docDef d.name d.params d.body d.scope pm cd doc)->s₁.heap.CodeRec cd d.name->mg d.name=some (.ref fa) ->
  s₁.heap.get? a=some { cls:=.type "list",data:=.seq vs.toArray } -> IntsAre vs ns->ns.length<=n->s₁.gens=#[] ->
  codeAny (model l.prog w) callerA (.call (.ref fa) ⟨[.ref a],[]⟩) (fun r s'=>r=.ok (.ret (.bool true))/\OldK s₁.heap s'.heap/\s'.os=s₁.os/\AllBare s'.gens) s₁) :
 WalkO q loose XP YP l.row.toRowW d [] (fun f vs=>PySem.call f vs):=by
 intro w s₀ s₁ mg mb G Y fa o pm cd doc dV kV ho hd hcd hD hmg hg args vals as hpre hlay hrd hwl hlo;obtain rfl:dV=.none:=Dflts.none hD hdf;obtain rfl:kV=.none:=Dflts.noKw hD;obtain⟨a,vs,ns,rfl,rfl,hobj,hints,hlen⟩:=script_of hn hpre hwl;refine enter_call (codeAny_mono (call w s₀ s₁ mg mb fa o pm cd doc a vs ns G Y ho (fd_plain hd) hcd hmg hobj hints hlen hg) fun r s' hq=>?_);obtain⟨rfl,h2,h3,h4⟩:=hq;exact⟨.inl ⟨.bool true,.bool true,[],rfl,fun _=>rfl,.bool true,post_true l _,fun _=>⟨List.Pairwise.nil,fun _ hm=>(nomatch hm)⟩⟩,h2,h3,h4⟩
section
variable{prog:Program}{w:World}{A:Around}{E:Value->Shared->Prop}{s:Shared}{K:Frag}
end
end Att
namespace L2
open PySem PySem.Spec PyProof.Rows
theorem vals_ints:∀{vs:List Value}{ns:List Int},IntsAre vs ns->Vals (ns.map V.int) vs
 | _,_,.nil=>.nil
 | _,_,.cons n t h=>.cons ⟨t,rfl⟩ (vals_ints h)
noncomputable def Only(H:Hp):Prop:=∀ b,H b=none ∨ ∃ o xs,H b=some (.frz o (.lst xs))
theorem law_call{P:Program}{w:World}{K:W.Frag}{mg mb:Str->Option Value}{CX:CXT}{k:Nat}{fa a:Addr}{fd:FuncData}{x:Str}{sp:Sp}{s₁:Shared}{vs:List Value}{ns:List Int}
 (KX:K.In s₁.heap) (hns:s₁.heap.Ns mainGlobals mg) (hb:s₁.heap.Ns builtinsNs mb) (hbb:∀ x:Str,x ≠ "__name__" -> mb x=bootBuiltins x) (hlim:s₁.heap.NoLimit) (hg:s₁.gens=#[])
 (ha:s₁.heap.get? a=some { cls:=.type "list",data:=.seq vs.toArray }) (hi:IntsAre vs ns) (hl:ns.length<=sizeLine) (hr:Room k callerA)
 (F:∀ base:Heap,K.In base->base.Ns mainGlobals mg->FnOk P w K mg base CX k fa fd [x] sp) (hbind:∀(s:Shared) (u:Value),BindsTo s fd ⟨[u],[]⟩ [(x,u)])
 (hsp:∀ H:Hp,Only H->SqL K H a (ns.map V.int)->sp [.ref a] H (fun v _=>v=.bl true) fun _ _ _=>False)
 (hCX:∀ H e s',CX [] H s₁ (fun _ _ _=>False) e s'->False) :
 codeAny (model P w) callerA (.call (.ref fa) ⟨[.ref a],[]⟩) (fun r s'=>r=.ok (.ret (.bool true))/\OldK s₁.heap s'.heap/\s'.os=s₁.os/\AllBare s'.gens) s₁:=by
 have rv:=vals_ints hi;have lenV:=hi.length
 -- from an abstract heap in which nothing but the script may be tracked
 have core:∀ H:Hp,Only H->SqL K H a (ns.map V.int)->HOk P w H s₁.heap->(∀ b,H b≠none->b=a)->(H a≠none->K.lookup a=none) ->
  codeAny (model P w) callerA (.call (.ref fa) ⟨[.ref a],[]⟩) (fun r s'=>r=.ok (.ret (.bool true))/\OldK s₁.heap s'.heap/\s'.os=s₁.os/\AllBare s'.gens) s₁:=by
  intro H hO hS hok hA hK;have base_of:∀{b:Addr}{o:Obj},s₁.heap.get? b=some o->H b=none->(hidT s₁.heap H).get? b=some o:=fun e n=>hidT_get e n;have noA:∀{b:Addr}{o:Obj}{es:Array DictEntry}{ep:Nat},s₁.heap.get? b=some o->o.data=.dict es ep->H b=none:=fun {b o es ep} e d=>by
   cases q:H b with
   | none=>rfl
   | some u=>
     have e':b=a:=hA b (by rw[q];simp)
     subst e';rw[ha]at e;cases e;have d':Data.seq vs.toArray _=Data.dict es ep:=d;cases d'
  have nsK:∀{b:Addr}{m:Str->Option Value},s₁.heap.Ns b m->(hidT s₁.heap H).Ns b m:=fun {b m} ⟨o,es,ep,e,d,r⟩=>⟨o,es,ep,base_of e (noA e d),d,r⟩;have hKb:K.In (hidT s₁.heap H):=fun b o e=>base_of (KX b o e) (by
   cases q:H b with
   | none=>rfl
   | some u=>
     have e':b=a:=hA b (by rw[q];simp)
     subst e';rw[hK (by rw[q];simp)]at e;cases e)
  have hM:Mod K mg (hidT s₁.heap H):=⟨hKb,nsK hns,⟨mb,nsK hb,hbb⟩,let⟨mc,h1,h2⟩:=hlim;⟨mc,nsK h1,h2⟩⟩;have e0:Env0 P w K mg (hidT s₁.heap H) callerA [] s₁ H:=⟨rfl,hM,fun b o e=>of_hidT e,Nat.le_of_eq (hidT_size _ _),trivial,fun b hb=>absurd (show b∈([]:List Addr)from hb) (by simp),hok,.of_eq hg⟩
  refine codeAny_mono ((F _ hKb (nsK hns)).run callerA [] s₁ H ⟨[.ref a],[]⟩ [.ref a] [.ref a] _ _ hr e0 (hbind s₁ (.ref a)) (.cons rfl .nil) (hsp H hO hS)) fun r s' h=>?_;cases r with
  | error e=>exact(hCX H e s' h).elim
  | ok fl=>
    cases fl with
    | next=>exact False.elim h
    | brk=>exact False.elim h
    | cont=>exact False.elim h
    | ret u=>
      obtain⟨v,H',os,bare,un,hok',r',q⟩:=h;have q':v=.bl true:=q;subst q';obtain rfl:u=Value.bool true:=r';refine⟨rfl,OldK.of_keep fun b o e=>?_,os,bare⟩;cases q:H b with
      | none=>exact un.keep b o e q (by intro z;exact absurd (show b∈([]:List Addr)from z) (by simp)) (by simp)
      | some u=>
        rcases hO b with z | ⟨ob,xs,z⟩
        · rw[q]at z;cases z
        have z2:=un.frzs b ob _ z;obtain⟨e1,_⟩:=hok b _ z;obtain⟨e2,_⟩:=hok' b _ z2;rw[e]at e1;cases e1;exact e2
 cases hk:K.lookup a with
 | some o=>
   -- the script is one of the module's own objects
   have e:=KX a o hk;rw[ha]at e;cases e;refine core (fun _=>none) (fun _=>.inl rfl) (.inr ⟨_,vs.toArray,_,hk,rfl,rfl,rfl,by rw[List.size_toArray,lenV];exact hl,by simpa using rv⟩) (fun b u z=>by have z':(none:Option HO)=some u:=z;cases z') (fun b z=>absurd rfl z) fun z=>absurd rfl z
 | none=>
   refine core (fun b=>if b=a then some (.frz { cls:=.type "list",data:=.seq vs.toArray } (.lst (ns.map V.int)))else none) (fun b=>?_) (.inl (.inr ⟨{ cls:=.type "list",data:=.seq vs.toArray },if_pos rfl⟩)) (fun b u z=>?_) (fun b z=>?_) fun _=>hk
   · by_cases hb:b=a
     · exact .inr ⟨_,_,if_pos hb⟩
     exact .inl (if_neg hb)
   · by_cases hb:b=a
     · have z':=(if_pos hb).symm.trans z
       cases z';subst hb;exact⟨ha,by rw[List.length_map];exact hl,vs,_,rv,ha⟩
     have z':=(if_neg hb).symm.trans z;cases z'
   by_cases hb:b=a
   · exact hb
   exact absurd (if_neg hb) z
end L2
namespace L2
open PySem PySem.Spec PyProof.Rows
theorem walk_of{l:W.OpenLaw}{n k:Nat}{q:Program}{loose:List Str}{XP:(Str->Option Value)->Heap->Prop}{YP:World->Heap->Prop}{d:DefRec}{K:Params->W.Frag}{CX:World->CXT}{sp:World->Sp}{x:Str}
 (hn:l.most=some n) (hn2:n<=sizeLine) (hdf:d.params.defaults=[]) (hr:Room k callerA)
 (hY:∀(w:World) (h:Heap),YP w h->(K w.params).In h)
 (F:∀(w:World) (mg:Str->Option Value) (fa:Addr) (h:Heap),(K w.params).In h->h.Ns mainGlobals mg->mg d.name=some (.ref fa) ->
  ∃ fd:FuncData,(∀(s:Shared) (u:Value),BindsTo s fd ⟨[u],[]⟩ [(x,u)]) /\
    ∀ base:Heap,(K w.params).In base->base.Ns mainGlobals mg->FnOk l.prog w (K w.params) mg base (CX w) k fa fd [x] (sp w))
 (hsp:∀(w:World) (H:Hp) (a:Addr) (ns:List Int),ns.length<=n->Only H->SqL (K w.params) H a (ns.map V.int)->sp w [.ref a] H (fun v _=>v=.bl true) fun _ _ _=>False)
 (hCX:∀(w:World) (H:Hp) (s:Shared) (e:Value) (s':Shared),CX w [] H s (fun _ _ _=>False) e s'->False) :
 W.WalkO q loose XP YP l.row.toRowW d [] (fun f vs=>PySem.call f vs):=by
 refine Att.attach_call hn hdf fun w s₀ s₁ mg mb fa o pm cd doc a vs ns G Y ho hd hcd hmg hobj hints hlen hg=>?_;have KX:=hY w _ Y;obtain⟨fd,hb,hF⟩:=F w mg fa _ KX G.T.g hmg;exact law_call KX G.T.g G.T.b G.T.builtins G.T.nolimit hg hobj hints (Nat.le_trans hlen hn2) hr hF hb (fun H hO hS=>hsp w H a ns hlen hO hS) fun H e s'=>hCX w H s₁ e s'
end L2
/- THE LAST THEOREM (shape;LID,My.* are yours):
   My.Adr: a structure of the addresses that your layer names (classes,functions);My.Txt K t: a structure (Prop) of the equations over K;
   My.txt_mk:{K}{implicit addresses ..} (e1:nsIn K mainGlobals "law"=some (some (.ref f))) (e2:K.lookup f=some ⟨oc,od,.func (fnOf "law" "law" params body scope dV kV doc pm an cdv ct),sl⟩) (e3:codeIn K cdv "law"=true) ..:∃ t,My.Txt K t
set_option maxRecDepth 100000 in
set_option maxHeartbeats 0 in
theorem PySem.Challenge.cw_LID_holds : PySem.Challenge.rw_LID.Holds := by
 w_on;o_law;k_head;(case hw=>w_witness2)
 k_fill
 refine L2.walk_of (l:=PySem.Challenge.rw_LID) (n:=63) (k:=40) (x:="script") (CX:=fun w=>..) (sp:=fun _=>My.sp_law) rfl (by decide) rfl ⟨rfl,by decide,by decide⟩ (fun w h Y=>W.kIn_of Y) ?F ?S ?C
 case F=>
  intro w mg fa h KX G hmg;have T:∃ t,My.Txt (L2.KOf KX) t:=by
   dsimp only[L2.KOf]                          -- K must stand as «<heap const> w.params» for k_is
   refine' My.txt_mk ?e1 ?e2 ?e3 ..
   (case e1=>W.k_is)                    -- in the order: a name->its address->its object->its parts
   (case e2=>W.k_is)
   ..
  obtain⟨t,T⟩:=T;have e0:=hmg.symm.trans (W.mg_of KX G T.law);cases e0                                       -- fa is the law's own address;exact⟨_,fun s u=>.of_eq rfl,fun base kb nb=>My.law_fn T kb nb⟩     -- if «.of_eq rfl» comes too early: refine' ⟨_,?b,fun base kb nb=>My.law_fn T kb nb⟩;exact fun s u=>.of_eq rfl
 case S=>exact fun w H a ns hl hO hS=>..
 case C=>exact ..
(the tactic k_is has no namespace: write k_is) -/
namespace L2
open PySem PySem.Spec PyProof.Rows
noncomputable def inClass(s:Stmt)(j:Nat):Stmt:=match s with
 | .ClassDef _ _ _ body _ _ _ _ _ _ _=>body.getD j (.Pass ⟨0,0,0,0⟩)
 | _=>.Pass ⟨0,0,0,0⟩
noncomputable def defArgs(s:Stmt):Arguments:=match s with
 | .FunctionDef _ a _ _ _ _ _ _ _ _=>a
 | _=>{ posonlyargs:=[],args:=[],vararg:=none,kwonlyargs:=[],kw_defaults:=[],kwarg:=none,defaults:=[] }
noncomputable def defBody(s:Stmt):List Stmt:=match s with
 | .FunctionDef _ _ b _ _ _ _ _ _ _=>b
 | _=>[]
noncomputable def defScope(s:Stmt):Scope:=match s with
 | .FunctionDef _ _ _ _ _ _ sc _ _ _=>sc
 | _=>{ kind:=.function,names:=[],isGenerator:=false,isCoroutine:=false }
noncomputable abbrev CX0:CXT:=fun _ _ _ _ _ _=>False
noncomputable abbrev E0:XK:=fun _ _ _=>False
theorem pass0{X:Cx}:Passes CX0 X E0:=fun _ _ _ _ _ _ _ h=>h.elim
structure Fun(K:W.Frag)(x qual:Str)(st:Stmt)(f:Addr)(fd:FuncData):Prop where
 ex:∃(oc:Value) (od:Option Addr) (kV doc pm:Value) (an:Option Addr) (cdv ct:Value) (osl:Array (Option Value)),
  fd=W.fnOf x qual (defArgs st) (defBody st) (defScope st) .none kV doc pm an cdv ct/\K.lookup f=some ⟨oc,od,.func fd,osl⟩/\W.codeIn K cdv qual=true
 kp:W.keepIn K (.ref f)=true
section
variable{P:Program}{w:World}{K:W.Frag}{mg:Str->Option Value}{base:Heap}
theorem Fun.ok{x qual:Str}{st:Stmt}{f:Addr}{fd:FuncData}{N ps:List Str}{k:Nat}{sp:Sp}(F:Fun K x qual st f fd)(S:FnScope N ps (defScope st))(len:∀ vs H Q E,sp vs H Q E->vs.length=ps.length)
 (hbody:∀(cdv:Value) (A:Around) (outer:List Env) (s:Shared) (H:Hp) (vs:List V) (Q:VK) (E:XK),Room k (A.deeper (envOfC qual (defScope st) s.heap.objs.size f cdv))->sp vs H Q E ->
  ∃ t,PSs (cxOf CX0 P w K mg base N qual (defScope st) f cdv A outer s H E).nox (defBody st) t/\t { nx:=fun _ H'=>Q .non H',rt:=Q } (start N vs) H):FnOk P w K mg base CX0 (k+1) f fd ps sp:=by
 obtain⟨oc,od,kV,doc,pm,an,cdv,ct,osl,rfl,lk,hcd⟩:=F.ex;refine fn_of lk hcd S len fun A outer s H vs Q E hr hsp=>?_;obtain⟨t,h,q⟩:=hbody cdv A outer s H vs Q E hr hsp;exact⟨t,h.nox,q⟩
theorem Fun.binds{x qual:Str}{st:Stmt}{f:Addr}{fd:FuncData}{ps:List Str}(F:Fun K x qual st f fd)
 (h:∀(kV doc pm:Value) (an:Option Addr) (cdv ct:Value) (us:List Value),us.length=ps.length->bindArgs (W.fnOf x qual (defArgs st) (defBody st) (defScope st) .none kV doc pm an cdv ct) ⟨us,[]⟩=pure (ps.zip us)):Binds K fd ps []:=by
 obtain⟨oc,od,kV,doc,pm,an,cdv,ct,osl,rfl,lk,hcd⟩:=F.ex;exact .all (h kV doc pm an cdv ct)
theorem fun_mk{x qual:Str}{st:Stmt}{f:Addr}{oc:Value}{od an:Option Addr}{osl:Array (Option Value)}{kV doc pm cdv ct:Value}(l:K.lookup f=some ⟨oc,od,.func (W.fnOf x qual (defArgs st) (defBody st) (defScope st) .none kV doc pm an cdv ct),osl⟩)
 (c:W.codeIn K cdv qual=true) (k:W.keepIn K (.ref f)=true):Fun K x qual st f (W.fnOf x qual (defArgs st) (defBody st) (defScope st) .none kV doc pm an cdv ct):=⟨⟨oc,od,kV,doc,pm,an,cdv,ct,osl,rfl,l,c⟩,k⟩
end
theorem hu_of{A:Around}{k:Nat}(hr:Room k A):A.units+1 < cLine:=Nat.lt_of_le_of_lt (Nat.add_le_add_left (by decide:1<=64) _) hr.units
section
variable{X:Cx}
theorem call_lenD:CallR X (.builtin "len") (fun xs H Q=>∃ a kvs,xs=[V.ref a]/\H a=some (.dK kvs)/\Q (.int kvs.length) H):=by
 intro pins s σ H xs us Q I r h;obtain⟨a,kvs,rfl,ha,q⟩:=h;obtain⟨u,rfl,ru⟩:=vals1 r;cases ru;exact d_len I (.inl ha) fun t s' I'=>⟨.int kvs.length,H,I',⟨t,rfl⟩,q⟩
end
theorem iteF{A B:Prop}(h:B):if false=true then A else B:=by
 rw[if_neg Bool.false_ne_true];exact h
theorem iteT{A B:Prop}(h:A):if true=true then A else B:=by
 rw[if_pos rfl];exact h
theorem ite2{c A B:Prop}[Decidable c](h1:c->A)(h2:¬ c->B):if c then A else B:=by
 by_cases h:c
 · rw[if_pos h]
   exact h1 h
 rw[if_neg h];exact h2 h
theorem iteNS{c A B:Prop}[Decidable c](hc:c)(h:B):if(!decide c)=true then A else B:=by
 rw[decide_eq_true hc];exact iteF h
noncomputable def Same(H H':Hp):Prop:=∀ b o,H b=some o->H' b=some o
theorem Same.trans{H H1 H2:Hp}(a:Same H H1)(b:Same H1 H2):Same H H2:=fun c o h=>b c o (a c o h)
theorem Same.free{H H':Hp}(e:Same H H'){l:Addr}(h:H' l=Option.none):H l=Option.none:=by
 cases q:H l with
 | none=>rfl
 | some o=>
   rw[e l o q]at h;cases h
theorem Same.seq{K:W.Frag}{H H':Hp}{a:Addr}{xs:List V}(e:Same H H')(h:SqL K H a xs):SqL K H' a xs:=by
 rcases h with (h | ⟨o,h⟩) | h
 · exact .inl (.inl (e _ _ h))
 · exact .inl (.inr ⟨o,e _ _ h⟩)
 exact .inr h
section
variable{κ:Type}[DecidableEq κ]
theorem nd_snoc:∀{l:List κ}{k:κ},l.Nodup -> ¬ k∈l->(l++[k]).Nodup
 | [],k,_,_=>by simp
 | a::r,k,h,hk=>by
   obtain⟨h1,h2⟩:=List.nodup_cons.mp h;show(a::(r++[k])).Nodup;refine List.nodup_cons.mpr ⟨fun m=>?_,nd_snoc h2 fun m=>hk (List.mem_cons.mpr (Or.inr m))⟩;rcases List.mem_append.mp m with q | q
   · exact h1 q
   exact hk (List.mem_cons.mpr (Or.inl (List.mem_singleton.mp q).symm))
theorem dropK_pos{p:κ × V}{r:List (κ × V)}{k:κ}(e:p.1=k):dropK (p::r) k=dropK r k:=by
 unfold dropK;rw[List.filter_cons,if_neg (by simp[e])]
theorem dropK_neg{p:κ × V}{r:List (κ × V)}{k:κ}(e:¬ p.1=k):dropK (p::r) k=p::dropK r k:=by
 unfold dropK;rw[List.filter_cons,if_pos (by simp[e])]
end
end L2
namespace SW
open PySem PySem.Spec PyProof.Rows L2
theorem b_int:bootBuiltins "int"=some (.type "int"):=by decide +kernel
theorem b_bool:bootBuiltins "bool"=some (.type "bool"):=by decide +kernel
theorem b_tuple:bootBuiltins "tuple"=some (.type "tuple"):=by decide +kernel
theorem b_isinstance:bootBuiltins "isinstance"=some (.builtin "isinstance"):=by decide +kernel
theorem b_len:bootBuiltins "len"=some (.builtin "len"):=by decide +kernel
structure Bx(p:Prop):Prop where
 out:p
structure Fn(P:Program)(w:World)(K:W.Frag)(mg:Str->Option Value)(base:Heap)(x:Str)(k:Nat)(ps:List Str)(sp:Sp):Prop where
 ex:∃(f:Addr) (fd:FuncData),FnOk P w K mg base CX0 k f fd ps sp/\mg x=some (.ref f)/\W.keepIn K (.ref f)=true/\Binds K fd ps []
structure Dfn(K:W.Frag)(mg:Str->Option Value)(x:Str)(st:Stmt)(ps:List Str):Prop where
 ex:∃(f:Addr) (fd:FuncData),Fun K x x st f fd/\mg x=some (.ref f)/\Binds K fd ps []
theorem Dfn.fn{P:Program}{w:World}{K:W.Frag}{mg:Str->Option Value}{base:Heap}{x:Str}{st:Stmt}{N ps:List Str}{k:Nat}{sp:Sp}(d:Dfn K mg x st ps)(S:FnScope N ps (defScope st))(len:∀ vs H Q E,sp vs H Q E->vs.length=ps.length)
 (hbody:∀(f:Addr) (cdv:Value) (A:Around) (outer:List Env) (s:Shared) (H:Hp) (vs:List V) (Q:VK) (E:XK),Room k (A.deeper (envOfC x (defScope st) s.heap.objs.size f cdv))->sp vs H Q E ->
  ∃ t,Bx (PSs (cxOf CX0 P w K mg base N x (defScope st) f cdv A outer s H E).nox (defBody st) t)/\t { nx:=fun _ H'=>Q .non H',rt:=Q } (start N vs) H):Fn P w K mg base x (k+1) ps sp:=by
 obtain⟨f,fd,F,hm,hb⟩:=d.ex;exact⟨f,fd,F.ok S len (fun cdv A outer s H vs Q E hr h=>let⟨t,h1,h2⟩:=hbody f cdv A outer s H vs Q E hr h;⟨t,h1.out,h2⟩),hm,F.kp,hb⟩
theorem fun_bx{P:Program}{w:World}{K:W.Frag}{mg:Str->Option Value}{base:Heap}{x qual:Str}{st:Stmt}{f:Addr}{fd:FuncData}{N ps:List Str}{k:Nat}{sp:Sp}(F:Fun K x qual st f fd)(S:FnScope N ps (defScope st))(len:∀ vs H Q E,sp vs H Q E->vs.length=ps.length)
 (hbody:∀(cdv:Value) (A:Around) (outer:List Env) (s:Shared) (H:Hp) (vs:List V) (Q:VK) (E:XK),Room k (A.deeper (envOfC qual (defScope st) s.heap.objs.size f cdv))->sp vs H Q E ->
  ∃ t,Bx (PSs (cxOf CX0 P w K mg base N qual (defScope st) f cdv A outer s H E).nox (defBody st) t)/\t { nx:=fun _ H'=>Q .non H',rt:=Q } (start N vs) H):FnOk P w K mg base CX0 (k+1) f fd ps sp:=
 F.ok S len (fun cdv A outer s H vs Q E hr h=>let⟨t,h1,h2⟩:=hbody cdv A outer s H vs Q E hr h;⟨t,h1.out,h2⟩)
noncomputable def plainE:Expr->Bool
 | .Starred _ _=>false
 | _=>true
theorem star_of{e:Expr}{es:List Expr}{env:Env}(h:plainE e=true):starEach (e::es) env=(false,eval e env)::starEach es env:=by
 cases e <;> first | rfl | exact absurd h Bool.false_ne_true
theorem star_any{pos:Pos}{env:Env}:∀{es:List Expr},es.all plainE=true->(backTo pos (starEach es env)).any (·.1)=false
 | [],_=>rfl
 | e::es,h=>by
   rw[List.all_cons,Bool.and_eq_true]at h;rw[star_of h.1];show(false || (backTo pos (starEach es env)).any (·.1))=false;rw[star_any h.2]
   rfl
theorem star_all{pos:Pos}{env:Env}:∀{es:List Expr},es.all plainE=true->(backTo pos (starEach es env)).all (fun x=>!x.1)=true
 | [],_=>rfl
 | e::es,h=>by
   rw[List.all_cons,Bool.and_eq_true]at h;rw[star_of h.1];show(true && (backTo pos (starEach es env)).all (fun x=>!x.1))=true;rw[star_all h.2]
   rfl
section
variable{X:Cx}{x:Str}{p pos:Pos}{e:Expr}{es:List Expr}{t:TA}{te:TE}{k:Nat}{ps:List Str}{sp:Sp}
theorem pac(ha:PE X e te)(hr:PA X es t)(h:plainE e=true:=by rfl):PA X (e::es) (tCons te t):=pa_cons ha hr (star_of h)
theorem pe_fn(F:Fn X.prog X.w X.K X.mg X.base x k ps sp)(hr:Room k X.A)(ha:PA X (e::es) t)(hg:Gl X x:=by rfl)(hdb:(x == ("__debug__":Str))=false:=by decide)(h1:plainE e=true:=by rfl)(h2:es.all plainE=true:=by rfl) :
 PE X (.Call (.Name x p) (e::es) [] pos) (tCall sp [] E0 t):=by
 obtain⟨f,fd,G,hm,kp,b⟩:=F.ex;exact pe_call G hr hg hm kp b .nil pass0 ha hdb (star_of h1) (star_any h2)
theorem pe_cB{id:String}{r:List V->Hp->VK->Prop}(hc:CallR X (.builtin id) r)(hm:X.mg x=none)(hv:bootBuiltins x=some (.builtin id))(ha:PA X (e::es) t)(hg:Gl X x:=by rfl)(hn:x ≠ "__name__":=by decide)(hdb:(x == ("__debug__":Str))=false:=by decide)
 (h1:plainE e=true:=by rfl) (h2:es.all plainE=true:=by rfl):PE X (.Call (.Name x p) (e::es) [] pos) (tCB r t):=pe_callB hc hg hm hv ha hn hdb (star_of h1) (star_any h2)
theorem pe_cT{T:String}{r:List V->Hp->VK->Prop}(hc:CallR X (.type T) r)(hm:X.mg x=none)(hv:bootBuiltins x=some (.type T))(ha:PA X (e::es) t)(hg:Gl X x:=by rfl)(hn:x ≠ "__name__":=by decide)(hdb:(x == ("__debug__":Str))=false:=by decide)
 (h1:plainE e=true:=by rfl) (h2:es.all plainE=true:=by rfl):PE X (.Call (.Name x p) (e::es) [] pos) (tCB r t):=pe_callTy hc hg hm hv ha hn hdb (star_of h1) (star_any h2)
theorem pe_m{T name id:_}{r:V->List V->Hp->VK->Prop}{o:Expr}{to:TE}{apos cpos:Pos}(pa:PlainAttrs T)(slot:Slot T name id)(hty:typeOf (.builtin id)=pure (.type "method_descriptor"))(hm:MtR X id r)(ho:PE X o to)(ha:PA X (e::es) t)
 (hbase:attributeBase o name X.env (eval o X.env)=eval o X.env:=by rfl) (hl:decide ((e::es).length+([]:List Keyword).length+(if([]:List Keyword).isEmpty then 0 else 1) < 30)=true:=by rfl)
 (hline:(apos.endLine == cpos.line)=true:=by rfl) (h1:plainE e=true:=by rfl) (h2:es.all plainE=true:=by rfl) :
 PE X (.Call (.Attribute o name apos) (e::es) [] cpos) (tBM X.K T r to t):=by
 refine pe_bm pa slot hty hm ho ha hbase ?_ hline (star_of h1) (star_any h2);have hA:(e::es).all plainE=true:=by rw[List.all_cons,h1,h2];rfl
 rw[star_all hA,hl]
 rfl
theorem pi_r1{tg a:Expr}{ta:TA}(hm:X.mg "range"=none)(ha:PA X [a] ta)(hg:Gl X "range":=by rfl)(h1:plainE a=true:=by rfl):PI X tg (.Call (.Name "range" p) [a] [] pos) (iRng1 ta):=
 pi_range1 hg hm ha (star_of h1)
theorem pe_gint{i:Int}(h:∃ t,X.mg x=some (.int i t))(hg:Gl X x:=by rfl)(hd:(x == ("__debug__":Str))=false:=by decide):PE X (.Name x pos) (tC (.int i)):=by
 obtain⟨t,h⟩:=h;exact pe_glob hg h ⟨t,rfl⟩ hd
theorem pe_ty{n:String}(hm:X.mg x=none)(hv:bootBuiltins x=some (.type n))(hg:Gl X x:=by rfl)(hn:x ≠ "__name__":=by decide)(hd:(x == ("__debug__":Str))=false:=by decide):PE X (.Name x pos) (tC (.ty n)):=
 pe_bltn hg hm hv (show Value.type n=Value.type n from rfl) hn hd
end
namespace B
section
variable{X:Cx}{x f:Str}{p pos:Pos}{e a b c o:Expr}{es:List Expr}{t:TA}{te ta tb tc to ti:TE}{k:Nat}{ps:List Str}{sp:Sp}{tg:Expr}
theorem int{i j pos}:Bx (PE X (.Constant (.int i) j pos) (tC (.int i))):=⟨pe_int⟩
theorem bl{b j pos}:Bx (PE X (.Constant (.bool b) j pos) (tC (.bl b))):=⟨pe_bl⟩
theorem non{j pos}:Bx (PE X (.Constant .none j pos) (tC .non)):=⟨pe_non⟩
theorem str{x j pos}:Bx (PE X (.Constant (.str x) j pos) (tC (.str x))):=⟨pe_str⟩
theorem v(i:Nat){x:Str}{pos:Pos}(hN:X.N[i]?=some x:=by rfl)(hv:Vis X.env.scope x:=by first | exact Or.inl rfl | exact Or.inr (Or.inl rfl) | exact Or.inr (Or.inr rfl))(hd:(x == ("__debug__":Str))=false:=by decide)
 (hcd:(x == ("__classdict__":Str))=false:=by decide):Bx (PE X (.Name x pos) (tVar i)):=⟨pe_var hN hv hd hcd⟩
theorem gint{i:Int}(h:∃ t,X.mg x=some (.int i t))(hg:Gl X x:=by rfl)(hd:(x == ("__debug__":Str))=false:=by decide):Bx (PE X (.Name x pos) (tC (.int i))):=⟨pe_gint h hg hd⟩
theorem ty{n:String}(hm:X.mg x=none)(hv:bootBuiltins x=some (.type n))(hg:Gl X x:=by rfl)(hn:x ≠ "__name__":=by decide)(hd:(x == ("__debug__":Str))=false:=by decide):Bx (PE X (.Name x pos) (tC (.ty n))):=⟨pe_ty hm hv hg hn hd⟩
theorem op{op:Operator}{r:R2}(ho:OpR X (binaryOp op) r)(ha:Bx (PE X a ta))(hb:Bx (PE X b tb)):Bx (PE X (.BinOp a op b pos) (tOp r ta tb)):=⟨pe_op ho ha.out hb.out⟩
theorem un{op:UnaryOp}{r:V->Hp->VK->Prop}(ho:UnR X (unaryOp op) r)(ha:Bx (PE X a ta)):Bx (PE X (.UnaryOp op a pos) (tUn r ta)):=⟨pe_un ho ha.out⟩
theorem not(ha:Bx (PE X a ta)):Bx (PE X (.UnaryOp .Not a pos) (tNotV ta)):=⟨pe_not ha.out⟩
theorem cmp{op:CmpOp}{r:R2}(ho:OpR X (compareOp op) r)(ha:Bx (PE X a ta))(hb:Bx (PE X b tb))(hm:behindInMarks op b=false:=by exact nomark _):Bx (PE X (.Compare a [op] [b] pos) (tOp r ta tb)):=⟨pe_cmpR ho ha.out hb.out hm⟩
theorem chain{op op':CmpOp}{r r':R2}(ho:OpR X (compareOp op) r)(ho':OpR X (compareOp op') r')(ha:Bx (PE X a ta))(hb:Bx (PE X b tb))(hc:Bx (PE X c tc))(hm:lastMarks [op,op'] [b,c]=false:=by with_unfolding_all rfl) :
 Bx (PE X (.Compare a [op,op'] [b,c] pos) (tChain r r' ta tb tc)):=⟨pe_chain ho ho' ha.out hb.out hc.out hm⟩
theorem one{op}(h:Bx (PE X a ta)):Bx (PE X (.BoolOp op [a] pos) ta):=⟨pe_one h.out⟩
theorem and{rest:List Expr}(ha:Bx (PE X a ta))(hb:Bx (PE X (.BoolOp .And (b::rest) pos) tb)):Bx (PE X (.BoolOp .And (a::b::rest) pos) (tAndV ta tb)):=⟨pe_and ha.out hb.out⟩
theorem or{rest:List Expr}(ha:Bx (PE X a ta))(hb:Bx (PE X (.BoolOp .Or (b::rest) pos) tb)):Bx (PE X (.BoolOp .Or (a::b::rest) pos) (tOrV ta tb)):=⟨pe_or ha.out hb.out⟩
theorem nil:Bx (PA X [] tNil):=⟨pa_nil⟩
theorem cons(ha:Bx (PE X e te))(hr:Bx (PA X es t))(h:plainE e=true:=by rfl):Bx (PA X (e::es) (tCons te t)):=⟨pac ha.out hr.out h⟩
theorem lst(h:Bx (PA X es t)):Bx (PE X (.List es pos) (tLst t)):=⟨pe_lst h.out⟩
theorem tup{x1}(h:Bx (PA X es t)):Bx (PE X (.Tuple es x1 pos) (tTup t)):=⟨pe_tup h.out⟩
theorem ix{r:R2}(hr:IxR X r)(ha:Bx (PE X a ta))(hb:Bx (PE X b tb))(hs:PlainIx b:=by exact fun _ _=>rfl):Bx (PE X (.Subscript a b pos) (tOp r ta tb)):=⟨pe_ix hr ha.out hb.out hs⟩
theorem nopart:Bx (PO X none tNoPart):=⟨po_none⟩
theorem part(h:Bx (PE X e te)):Bx (PO X (some e) (tPart te)):=⟨po_some h.out⟩
theorem slice{lo hi:Option Expr}{tl th:TO}{p2:Pos}{r:V->Option Int->Option Int->Hp->VK->Prop}(hr:SlR X r)(he:Bx (PE X e te))(hl:Bx (PO X lo tl))(hu:Bx (PO X hi th)):Bx (PE X (.Subscript e (.Slice lo hi none p2) pos) (tSl r te tl th)):=⟨pe_slice hr he.out hl.out hu.out⟩
theorem fn(F:Fn X.prog X.w X.K X.mg X.base x k ps sp)(hr:Room k X.A)(ha:Bx (PA X (e::es) t))(hg:Gl X x:=by rfl)(hdb:(x == ("__debug__":Str))=false:=by decide)(h1:plainE e=true:=by rfl)(h2:es.all plainE=true:=by rfl) :
 Bx (PE X (.Call (.Name x p) (e::es) [] pos) (tCall sp [] E0 t)):=⟨pe_fn F hr ha.out hg hdb h1 h2⟩
theorem cB{id:String}{r:List V->Hp->VK->Prop}(hc:CallR X (.builtin id) r)(hm:X.mg x=none)(hv:bootBuiltins x=some (.builtin id))(ha:Bx (PA X (e::es) t))(hg:Gl X x:=by rfl)(hn:x ≠ "__name__":=by decide)(hdb:(x == ("__debug__":Str))=false:=by decide)
 (h1:plainE e=true:=by rfl) (h2:es.all plainE=true:=by rfl):Bx (PE X (.Call (.Name x p) (e::es) [] pos) (tCB r t)):=⟨pe_cB hc hm hv ha.out hg hn hdb h1 h2⟩
theorem cT{T:String}{r:List V->Hp->VK->Prop}(hc:CallR X (.type T) r)(hm:X.mg x=none)(hv:bootBuiltins x=some (.type T))(ha:Bx (PA X (e::es) t))(hg:Gl X x:=by rfl)(hn:x ≠ "__name__":=by decide)(hdb:(x == ("__debug__":Str))=false:=by decide)
 (h1:plainE e=true:=by rfl) (h2:es.all plainE=true:=by rfl):Bx (PE X (.Call (.Name x p) (e::es) [] pos) (tCB r t)):=⟨pe_cT hc hm hv ha.out hg hn hdb h1 h2⟩
theorem m{T name id:_}{r:V->List V->Hp->VK->Prop}{apos cpos:Pos}(pa:PlainAttrs T)(slot:Slot T name id)(hty:typeOf (.builtin id)=pure (.type "method_descriptor"))(hm:MtR X id r)(ho:Bx (PE X o to))(ha:Bx (PA X (e::es) t))
 (hbase:attributeBase o name X.env (eval o X.env)=eval o X.env:=by rfl) (hl:decide ((e::es).length+([]:List Keyword).length+(if([]:List Keyword).isEmpty then 0 else 1) < 30)=true:=by rfl)
 (hline:(apos.endLine == cpos.line)=true:=by rfl) (h1:plainE e=true:=by rfl) (h2:es.all plainE=true:=by rfl) :
 Bx (PE X (.Call (.Attribute o name apos) (e::es) [] cpos) (tBM X.K T r to t)):=⟨pe_m pa slot hty hm ho.out ha.out hbase hl hline h1 h2⟩
theorem tcmp{op:CmpOp}{r:R2}(ho:OpR X (compareOp op) r)(ha:Bx (PE X a ta))(hb:Bx (PE X b tb))(hm:behindInMarks op b=false:=by exact nomark _):Bx (PT X (.Compare a [op] [b] pos) (tTest (tOp r ta tb))):=⟨pt_cmpR ho ha.out hb.out hm⟩
theorem tval(h:Bx (PE X e te))(he:∀ whole,isTrue e X.env whole=(do let v ← whole;standAt e.pos;holding [v] (truthy v)):=by intro _;rfl):Bx (PT X e (tB te)):=⟨pt_val h.out he⟩
theorem tnot{tA:TT}(ha:Bx (PT X a tA)):Bx (PT X (.UnaryOp .Not a pos) (tNot tA)):=⟨pt_not ha.out⟩
theorem wand1{tA:TT}(ha:Bx (PT X a tA)):Bx (PW X (.BoolOp .And [a] pos) tA):=⟨pw_and1 ha.out⟩
theorem wor1{tA:TT}(ha:Bx (PT X a tA)):Bx (PW X (.BoolOp .Or [a] pos) tA):=⟨pw_or1 ha.out⟩
theorem wand{tA tB':TT}{rest:List Expr}(ha:Bx (PT X a tA))(hb:Bx (PW X (.BoolOp .And (b::rest) pos) tB')):Bx (PW X (.BoolOp .And (a::b::rest) pos) (tAnd tA tB')):=⟨pw_and ha.out hb.out⟩
theorem wor{tA tB':TT}{rest:List Expr}(ha:Bx (PT X a tA))(hb:Bx (PW X (.BoolOp .Or (b::rest) pos) tB')):Bx (PW X (.BoolOp .Or (a::b::rest) pos) (tOr tA tB')):=⟨pw_or ha.out hb.out⟩
theorem tw{tA:TT}(h:Bx (PW X e tA)):Bx (PT X e tA):=⟨h.out.pt⟩
theorem gname{i:Nat}(hN:X.N.Nodup)(hi:X.N[i]?=some x:=by rfl)(hx:Loc X.env.scope x:=by first | exact Or.inl rfl | exact Or.inr rfl)(hf:X.fn x=true∨X.env.scope.names.lookup x=some .local:=by first | exact .inl rfl | exact .inr rfl):Bx (PG X (.Name x pos) (gName i)):=⟨pg_name hN hi hx hf⟩
theorem gnil:Bx (PGs X [] gNil):=⟨pgs_nil⟩
theorem gcons{g:TG}{u:TGs}(h1:Bx (PG X e g))(h2:Bx (PGs X es u))(hs:(assignEach (e::es) X.env).map (·.2)=assign e X.env::(assignEach es X.env).map (·.2):=by rfl):Bx (PGs X (e::es) (gCons g u)):=⟨pgs_cons h1.out h2.out hs⟩
theorem gtup{kk n:Nat}{u:TGs}(h:Bx (PGs X es u))(hc:X.calm=true:=by rfl)(hn:(assignEach es X.env).length=n:=by rfl)(hst:(assignEach es X.env).findIdx? (·.1)=none:=by rfl):Bx (PG X (.Tuple es kk pos) (gTup X.K n u)):=⟨pg_tup hc h.out hn hst⟩
theorem gsub{s:TSet}{i:Expr}(ho:Bx (PE X o to))(hi:Bx (PE X i ti))(hs:PSet X s)
 (ha:∀ v,assign (.Subscript o i pos) X.env v=(do
  let ov ← holding [v] (eval o X.env)
  let iv ← holding [v,ov] (eval i X.env)
  standAt pos
  holding [v,ov,iv] (setItem ov iv v)
  release [v,ov,iv] []):=by intro _;rfl):Bx (PG X (.Subscript o i pos) (gSub to ti s)):=⟨pg_sub ho.out hi.out hs ha⟩
theorem asg{g:TG}(he:Bx (PE X e te))(hg:Bx (PG X tg g))(hs:swapsWithSole [tg] e pos.line X.env=pure false:=by rfl)(hw:swappedStores [tg] e X.env=pure none:=by rfl)
 (h1:(assignEach [tg] X.env).map (·.2)=[assign tg X.env]:=by rfl):Bx (PS X (.Assign [tg] e pos) (tAsg te g)):=⟨ps_asg he.out hg.out hs hw h1⟩
theorem set(i:Nat){pos':Pos}(hN:X.N.Nodup)(he:Bx (PE X e te))(hi:X.N[i]?=some x:=by rfl)(hx:Loc X.env.scope x:=by first | exact Or.inl rfl | exact Or.inr rfl)(hs:swapsWith e (some (.Name x pos')) pos.line X.env=pure false:=by rfl)
 (hf:X.fn x=true∨X.env.scope.names.lookup x=some .local:=by first | exact .inl rfl | exact .inr rfl):Bx (PS X (.Assign [.Name x pos'] e pos) (tAsg te (gName i))):=⟨ps_set hN hi hx he.out hs hf⟩
theorem expr(he:Bx (PE X e te))(hs:swapsWith e none pos.line X.env=pure false:=by rfl):Bx (PS X (.Expr e pos) (tDrop te)):=⟨ps_expr he.out hs⟩
theorem ret(he:Bx (PE X e te)):Bx (PS X (.Return (some e) pos) (tRet te)):=⟨ps_ret he.out⟩
theorem ifs{tcc:TT}{l r:List Stmt}{u w:TS}(hc:Bx (PT X c tcc))(ha:Bx (PSs X l u))(hb:Bx (PSs X r w)):Bx (PS X (.If c l r pos) (tIfS tcc u w)):=⟨ps_if hc.out ha.out hb.out⟩
theorem ilist{l:Expr}{tl:TE}(hl:Bx (PE X l tl)):Bx (PI X tg l (iList X.K tl)):=⟨pi_list hl.out⟩
theorem itup{l:Expr}{tl:TE}(hl:Bx (PE X l tl)):Bx (PI X tg l (iTup X.K tl)):=⟨pi_tup hl.out⟩
theorem irange{t:TA}(hm:X.mg "range"=none)(ha:Bx (PA X [a] t))(hg:Gl X "range":=by rfl)(h1:plainE a=true:=by rfl):Bx (PI X tg (.Call (.Name "range" p) [a] [] pos) (iRng1 t)):=⟨pi_r1 hm ha.out hg h1⟩
theorem fors{iter:Expr}{l:List Stmt}{wi:TI}{g:TG}{u:TS}(hi:Bx (PI X tg iter wi))(hg:Bx (PG X tg g))(hb:Bx (PSs X l u))(hp:PassesOwn (model X.prog X.w) X.A X.env X.xe:=by exact PassesOwn.never)(hc:X.calm=true:=by rfl)
 (hs:∀ x,foldedSetIterable iter X.env x=pure x:=by intro _;rfl):Bx (PS X (.For tg iter l [] pos) (tFor wi g u)):=⟨ps_for hp hc hi.out hg.out hb.out hs⟩
theorem snil:Bx (PSs X [] tNext):=⟨pss_nil⟩
theorem scons{st:Stmt}{rest:List Stmt}{u w:TS}(h1:Bx (PS X st u))(h2:Bx (PSs X rest w)):Bx (PSs X (st::rest) (tSeq u w)):=⟨pss_cons h1.out h2.out⟩
theorem sone{st:Stmt}{u:TS}(h1:Bx (PS X st u)):Bx (PSs X [st] u):=⟨pss_one h1.out⟩
end
end B
noncomputable def CDivL(_ j:Int):Prop:=0 < j/\j < 18446744073709551616
theorem op_fdivL{X:Cx}:OpR X (binaryOp .FloorDiv) (rI CDivL fun i j=>.int (i / j)):=opI fun i j _ _ _ _ _ hc q=>by
 have h1:(0:Int) < j:=hc.1;have h2:j < 18446744073709551616:=hc.2;have h3:j.natAbs.log2 < 64:=(Nat.log2_lt (by omega)).mpr (by omega)
 exact floordiv_int (by omega) (by rw[Int.fdiv_eq_ediv_of_nonneg i (by omega)];exact q) (.inl (PyProof.noPylong_of_log2 (by omega)))
section
variable{D:Ends}{σ:L2.St}{H:Hp}{Q:VK}{v:V}{K:W.Frag}
theorem wAsg{te:TE}{g:TG}(h:te σ H fun x H1=>g x σ H1 D.nx):tAsg te g D σ H:=h
theorem wName{i:Nat}{Q:L2.St->Hp->Prop}(h:Q (σ.set i (some v)) H):gName i v σ H Q:=h
theorem wSub{to ti:TE}{t:TSet}{Q:L2.St->Hp->Prop}(h:to σ H fun o H1=>ti σ H1 fun i H2=>t o i v H2 fun H3=>Q σ H3):gSub to ti t v σ H Q:=h
theorem wSetL{p:Addr}{xs:List V}{i:Int}{j:Nat}{Q:Hp->Prop}(e:H p=some (.lst xs))(hj:ixN xs.length i=some j)(h:Q (upd H p (.lst (xs.set j v)))):rSetL (.ref p) (.int i) v H Q:=⟨p,xs,i,j,rfl,rfl,e,hj,h⟩
theorem wDrop{te:TE}(h:te σ H fun _ H1=>D.nx σ H1):tDrop te D σ H:=h
theorem wRet{te:TE}(h:te σ H D.rt):tRet te D σ H:=h
theorem wNext(h:D.nx σ H):tNext D σ H:=h
theorem wIfS{c:TT}{t u:TS}(h:c σ H fun b H1=>if b=true then t D σ H1 else u D σ H1):tIfS c t u D σ H:=h
theorem wVar{i:Nat}(e:σ[i]?=some (some v))(h:Q v H):tVar i σ H Q:=⟨v,e,h⟩
theorem wC(h:Q v H):tC v σ H Q:=h
theorem wOp{r:R2}{ta tb:TE}(h:ta σ H fun x H1=>tb σ H1 fun y H2=>r x y H2 Q):tOp r ta tb σ H Q:=h
theorem wUn{r:V->Hp->VK->Prop}{ta:TE}(h:ta σ H fun x H1=>r x H1 Q):tUn r ta σ H Q:=h
theorem wU{g:Int->V}{i:Int}(h:Q (g i) H):rU g (.int i) H Q:=⟨i,rfl,h⟩
theorem wI0{g:Int->Int->V}{i j:Int}(h:Q (g i j) H):rI0 g (.int i) (.int j) H Q:=⟨i,j,rfl,rfl,h⟩
theorem wMod{g:Int->Int->V}{i j:Int}(c:0 < j)(h:Q (g i j) H):rI (fun _ j=>0 < j) g (.int i) (.int j) H Q:=⟨i,j,rfl,rfl,c,h⟩
theorem wDivL{g:Int->Int->V}{i j:Int}(c:0 < j/\j < 18446744073709551616)(h:Q (g i j) H):rI CDivL g (.int i) (.int j) H Q:=⟨i,j,rfl,rfl,c,h⟩
theorem wMul{g:Int->Int->V}{i j:Int}(c:(-18446744073709551616 < i/\i < 18446744073709551616)∨(-18446744073709551616 < j/\j < 18446744073709551616))(h:Q (g i j) H):rI CMul g (.int i) (.int j) H Q:=⟨i,j,rfl,rfl,c,h⟩
theorem wPow{g:Int->Int->V}{i j:Int}(c:0<=j/\j<=1000000/\i.natAbs < 2 ^ 64)(h:Q (g i j) H):rI CPow g (.int i) (.int j) H Q:=⟨i,j,rfl,rfl,c,h⟩
theorem wEqI{i j:Int}(h:Q (.bl (decide (V.int i=V.int j))) H):rEq (.int i) (.int j) H Q:=⟨rfl,h⟩
theorem wNeI{i j:Int}(h:Q (.bl (!decide (V.int i=V.int j))) H):rNe (.int i) (.int j) H Q:=⟨rfl,h⟩
theorem wTest{te:TE}{Q:Bool->Hp->Prop}(h:te σ H fun x H'=>∃ k,x=.bl k/\Q k H'):tTest te σ H Q:=h
theorem wB{te:TE}{Q:Bool->Hp->Prop}(h:te σ H fun x H'=>∃ k,x=.bl k/\Q k H'):tB te σ H Q:=h
theorem wBl{b:Bool}{Q:Bool->Prop}(h:Q b):∃ k,V.bl b=.bl k/\Q k:=⟨b,rfl,h⟩
theorem wNot{t:TT}{Q:Bool->Hp->Prop}(h:t σ H fun c H1=>Q (!c) H1):tNot t σ H Q:=h
theorem wNotV{ta:TE}(h:ta σ H fun x H1=>∃ c,x=.bl c/\Q (.bl (!c)) H1):tNotV ta σ H Q:=h
theorem wAndV{ta tb:TE}(h:ta σ H fun x H1=>∃ c,x=.bl c/\if c=true then tb σ H1 Q else Q (.bl false) H1):tAndV ta tb σ H Q:=h
theorem wOrV{ta tb:TE}(h:ta σ H fun x H1=>∃ c,x=.bl c/\if c=true then Q (.bl true) H1 else tb σ H1 Q):tOrV ta tb σ H Q:=h
theorem wIxL{p:Addr}{xs:List V}{i:Int}(e:H p=some (.lst xs))(a:atI xs i=some v)(h:Q v H):rIxL K (.ref p) (.int i) H Q:=⟨p,xs,i,v,rfl,rfl,SqL.of e,a,h⟩
theorem wIxT{p:Addr}{xs:List V}{i:Int}(e:H p=some (.tup xs))(a:atI xs i=some v)(h:Q v H):rIxT K (.ref p) (.int i) H Q:=⟨p,xs,i,v,rfl,rfl,SqT.of e,a,h⟩
theorem wNil{Q:List V->Hp->Prop}(h:Q [] H):tNil σ H Q:=h
theorem wCons{ta:TE}{tr:TA}{Q:List V->Hp->Prop}(h:ta σ H fun x H1=>tr σ H1 fun xs H2=>Q (x::xs) H2):tCons ta tr σ H Q:=h
theorem wLst{t:TA}(h:t σ H fun xs H1=>xs.length<=sizeLine /\ ∀ p,H1 p=none->Q (.ref p) (upd H1 p (.lst xs))):tLst t σ H Q:=h
theorem wTup{t:TA}(h:t σ H fun xs H1=>xs.length<=sizeLine /\ ∀ p,H1 p=none->Q (.ref p) (upd H1 p (.tup xs))):tTup t σ H Q:=h
theorem wBM{T:String}{r:V->List V->Hp->VK->Prop}{to:TE}{t:TA}(h:to σ H fun x H1=>tyV K T x H1/\t σ H1 fun xs H2=>r x xs H2 Q):tBM K T r to t σ H Q:=h
theorem wCall{sp:Sp}{E:XK}{t:TA}(h:t σ H fun vs H1=>sp (vs++[]) H1 Q E):tCall sp [] E t σ H Q:=h
theorem wCB{r:List V->Hp->VK->Prop}{t:TA}(h:t σ H fun vs H1=>r vs H1 Q):tCB r t σ H Q:=h
end
end SW
namespace SW
open PySem PySem.NumText
set_option maxHeartbeats 4000000 in
section
variable{prog:Program}{w:World}{A:Around}{E:Value->Shared->Prop}{s:Shared}{Q:Value->Shared->Prop}{x:PySem.Str}{t u:Tok}
end
end SW
namespace SW
open PySem PySem.Spec PyProof.Rows L2
noncomputable def KeepBut(p:Addr)(H H':Hp):Prop:=∀ b o,b≠p->H b=some o->H' b=some o
theorem KeepBut.trans{p:Addr}{H H1 H2:Hp}(a:KeepBut p H H1)(b:KeepBut p H1 H2):KeepBut p H H2:=fun c o n h=>b c o n (a c o n h)
theorem KeepBut.new{p q:Addr}{o:HO}{H:Hp}(h:H q=none):KeepBut p H (upd H q o):=fun b u _ e=>by
 rw[upd_ne (ne_of_none e h)];exact e
theorem KeepBut.at{p:Addr}{o:HO}{H:Hp}:KeepBut p H (upd H p o):=fun b u n e=>by
 rw[upd_ne n];exact e
theorem Same.new{q:Addr}{o:HO}{H:Hp}(h:H q=none):Same H (upd H q o):=fun b u e=>by
 rw[upd_ne (ne_of_none e h)];exact e
theorem Same.but{p:Addr}{H H':Hp}(h:Same H H'):KeepBut p H H':=fun b o _ e=>h b o e
theorem atI_in{α:Type}{xs:List α}{i:Int}(h0:0<=i)(h1:i < xs.length):∃ v,atI xs i=some v/\v∈xs:=by
 obtain⟨j,rfl⟩:=Int.eq_ofNat_of_zero_le h0;have hj:j < xs.length:=by omega
 exact⟨xs[j],atI_nat (by simp[hj]),List.getElem_mem hj⟩
section
variable{X:Cx}
theorem call_isi:CallR X (.builtin "isinstance") (fun xs H Q=>∃ x T t b,xs=[x,.ty T]/\TyOf X.K H x t/\W.kitOne X.K t (.type T)=some b/\Q (.bl b) H):=by
 intro pins s σ H xs us Q I r h;obtain⟨x,T,t,b,rfl,ty,e,q⟩:=h;obtain⟨u,v,rfl,ru,rv⟩:=vals2 r;cases (show v=Value.type T from rv);exact isinst_ok I ru ty e fun tk=>⟨.bl b,H,I.tok tk,rfl,q⟩
end
theorem isi_int_int{K:W.Frag}:W.kitOne K (.type "int") (.type "int")=some true:=rfl
theorem isi_int_bool{K:W.Frag}:W.kitOne K (.type "int") (.type "bool")=some false:=by
 show W.kitOne [] (.type "int") (.type "bool")=some false
 decide +kernel
section
variable{D:Ends}{σ:L2.St}{H:Hp}{Q:VK}{v:V}{K:W.Frag}
theorem wFor{wi:TI}{g:TG}{tb:TS}(h:wi σ H fun J H1=>∃ W:Nat->Nat->L2.St->Hp->Prop,(∃ m,W 0 m σ H1) /\ ∀ i m σ H,W i m σ H ->
 (J.stop i H/\D.nx σ H)∨(J.go i H /\ ∃ N:L2.St->Hp->Prop,(∀ σ' H',N σ' H' -> ∃ m',m' < m/\W (i+1) m' σ' H') /\ ∀ x H',J.yld i H x H'->g x σ H' fun σ2 H2=>tb { D with nx:=N,ct:=N,bk:=D.nx } σ2 H2)):tFor wi g tb D σ H:=h
theorem wIList{tl:TE}{R:It->Hp->Prop}(h:tl σ H fun x H1=>∃ a,x=.ref a/\(∃ xs,SqL K H1 a xs)/\R (Itl K a) H1):iList K tl σ H R:=h
theorem wRng1{ta:TA}{R:It->Hp->Prop}(h:ta σ H fun vs H1=>∃ j:Int,vs=[.int j] /\ -(2 ^ 62)<=j/\j < 2 ^ 62/\R (Itr 0 j.toNat) H1):iRng1 ta σ H R:=h
theorem cut_ints(ns:List Int)(lo hi:Option Int):∃ cs:List Int,cutV (ns.map V.int) lo hi=cs.map V.int/\cs.length<=ns.length:=by
 unfold cutV;rw[← List.map_drop,← List.map_take];exact⟨_,rfl,by rw[List.length_take,List.length_drop];omega⟩
end
theorem iteY{c A B:Prop}[Decidable c](hc:c)(h:A):if decide c=true then A else B:=by
 rw[decide_eq_true hc];exact iteT h
theorem getInt{cs:List Int}{i:Nat}{y:V}(h:(cs.map V.int)[i]?=some y):∃ c,y=V.int c:=by
 rw[List.getElem?_map]at h;cases e:cs[i]? with
 | none=>rw[e]at h;cases h
 | some z=>rw[e]at h;exact⟨z,(Option.some.inj h).symm⟩
noncomputable def spLaw(K:W.Frag):Sp:=fun vs H Q _=>∃(a:Addr) (ns:List Int),vs=[.ref a]/\SqL K H a (ns.map V.int)/\ns.length<=63 /\ ∀ H',Q (.bl true) H'
section
variable{H:Hp}{Q:VK}
theorem wInt1{k:Bool}{P:Int->Prop}(h:P (if k=true then 1 else 0)):(∃ i,[V.bl k]=[V.int i]/\P i) ∨ ∃ k',[V.bl k]=[V.bl k']/\P (if k'=true then 1 else 0):=.inr ⟨k,rfl,h⟩
end
section
variable{D:Ends}{σ:L2.St}{H:Hp}{Q:VK}
theorem wAnd{t u:TT}{Q:Bool->Hp->Prop}(h:t σ H fun c H1=>if c=true then u σ H1 Q else Q false H1):tAnd t u σ H Q:=h
theorem wOr{t u:TT}{Q:Bool->Hp->Prop}(h:t σ H fun c H1=>if c=true then Q true H1 else u σ H1 Q):tOr t u σ H Q:=h
theorem wChain{r r':R2}{ta tb tc:TE}(h:ta σ H fun x H1=>tb σ H1 fun y H2=>r x y H2 fun z H3=>∃ k,z=.bl k/\(if k=true then tc σ H3 fun w' H4=>r' y w' H4 Q else Q (.bl false) H3)):tChain r r' ta tb tc σ H Q:=h
end
theorem iteNo{c A B:Prop}[Decidable c](hc:¬ c)(h:B):if decide c=true then A else B:=by
 rw[decide_eq_false hc];exact iteF h
noncomputable def compCx(X:Cx)(scope:Scope)(cl:List (Str×Addr))(N':List Str)(s:Shared)(H:Hp)(fp:List Addr)(pins:List (Addr×Obj)):Cx:=
 { X with N:=N',s₀:=s,H₀:=H,env:=compEnvC scope cl s.heap.objs.size X.env,outer:=X.stack,stack:=X.stack,ex:=fp,fn:=fun _=>false,pn:=X.pn++pins,xe:=fun _ _=>False }
structure CompScope(X:Cx)(scope:Scope)(cl:List (Str×Addr))(x:Str)(js:List Nat)(N':List Str):Prop where
 clos:closureFor scope X.env=pure cl
 kind:scope.kind=.function
 nocell:∀ y∈scope.names,y.2 ≠ .cell
 names:∀ y∈scope.names,y.2=.local->scope.names.lookup y.1=some .local
 own:scope.names.lookup x=some .local
 sub:∀ p∈cl,X.env.cells.lookup p.1=some p.2
 has:∀ y,((relabel scope X.env).names.lookup y=some .cell∨(relabel scope X.env).names.lookup y=some .free) -> ∃ c,cl.lookup y=some c
 nm:N'=x::js.map fun j=>X.N.getD j Str.empty
 see:∀(i j:Nat),js[i]?=some j -> ∃ y,X.N[j]?=some y/\(X.env.kindOf y=some .cell∨X.env.kindOf y=some .free)/\((relabel scope X.env).names.lookup y=some .cell∨(relabel scope X.env).names.lookup y=some .free)
noncomputable def seen(σ:L2.St)(js:List Nat):L2.St:=none::js.map fun j=>σ.getD j none
section
variable{X:Cx}{scope:Scope}{cl:List (Str×Addr)}{x:Str}{js:List Nat}{N':List Str}{pins:List (Addr×Obj)}{σ:L2.St}{H:Hp}{s:Shared}{fp:List Addr}
theorem CompScope.sub'(S:CompScope X scope cl x js N'){y:Str}{c:Addr}(h:cl.lookup y=some c):X.env.cells.lookup y=some c:=S.sub (y,c) (PySem.mem_of_lookup h)
theorem comp_ok(S:CompScope X scope cl x js N')(I:Inv X pins σ H s)(hf:∀ b∈fp,FpOk X pins H b)(ho:∀ b∈fp,b < s.heap.objs.size):(compCx X scope cl N' s H fp pins).Ok where
 mod:=I.ok.mod
 kind:=S.kind
 glob:=I.ok.glob
 blt:=I.ok.blt
 above:=Nat.le_refl _
 inj:=fun y z c h1 h2=>I.ok.inj y z c (S.sub' h1) (S.sub' h2)
 has:=fun y h=>S.has y h
 cab:=fun y c h=>absurd h Bool.false_ne_true
 hd:=I.ok.hd
 frames:=I.ok.frames
 stk:=.inl rfl
 exf:=fun b hb=>⟨Nat.ne_of_lt (ho b hb),fun y c h=>(hf b hb).2.2.2.2.1 y c (S.sub' h)⟩
 bs:=I.bs
 bsz:=Nat.le_trans I.ok.bsz I.sz
 noex:=fun b o e hb=>by
  rcases(hf b hb).2.2.2.1 with z | z
  · exact I.ok.noex b o e z
  exact absurd (Nat.lt_of_lt_of_le (Heap.lt_size (I.ok.bs b o e).1) z) (Nat.lt_irrefl _)
 exfs:=fun b hb z=>by
  rcases List.mem_cons.mp (I.stkSub b z)with e | e
  · exact(hf b hb).2.1 e
  exact(hf b hb).2.2.1 e
 funs:=I.stack
 frf:=I.stkFree
theorem comp_inv(S:CompScope X scope cl x js N')(I:Inv X pins σ H s)(hf:∀ b∈fp,FpOk X pins H b)(ho:∀ b∈fp,b < s.heap.objs.size){s4:Shared}{m:Str->Option Value}(hos:s4.os=s.os)(hg:s4.gens=s.gens)
 (hn:s4.heap.Ns s.heap.objs.size m) (hk:∀ b o,s.heap.get? b=some o->s4.heap.get? b=some o):Inv (compCx X scope cl N' s H fp pins) [] (seen σ js) H s4 where
 ok:=comp_ok S I hf ho
 os:=hos
 bare:=by rw[hg];exact I.bare
 base:=Un.kept hk
 loc:=by
  obtain⟨mX,_,hl⟩:=I.loc;refine⟨m,hn,fun i y v h1 h2 h3=>?_⟩;cases i with
  | zero=>
    unfold seen at h2;simp at h2
  | succ i=>
    have h1':N'[i+1]?=some y:=h1;rw[S.nm,List.getElem?_cons_succ,List.getElem?_map]at h1';unfold seen at h2;rw[List.getElem?_cons_succ,List.getElem?_map]at h2;cases ej:js[i]? with
    | none=>rw[ej]at h2;cases h2
    | some j=>
      rw[ej]at h1' h2;obtain⟨z,hz,k1,k2⟩:=S.see i j ej;have ey:z=y:=by
       have:X.N.getD j Str.empty=y:=Option.some.inj h1';rw[List.getD_eq_getElem?_getD,hz]at this;exact this
      subst ey;have ev:σ[j]?=some (some v):=by
       have q:σ.getD j none=some v:=Option.some.inj h2;rw[List.getD_eq_getElem?_getD]at q;cases e:σ[j]? with
       | none=>rw[e]at q;cases q
       | some w'=>rw[e]at q;exact congrArg some q
      have kx:X.env.scope.names.lookup z=some .cell∨X.env.scope.names.lookup z=some .free:=k1;obtain⟨u,r,l⟩:=hl j z v hz ev (.inr kx);refine⟨u,r,.inr ⟨k2,?_⟩⟩;obtain⟨c,hc⟩:=S.has z k2;rcases l with ⟨kl,_⟩ | ⟨_,c',e',cell⟩
      · rcases k1 with k1 | k1 <;> rw[k1]at kl <;> cases kl
      have:c'=c:=Option.some.inj (e'.symm.trans (S.sub' hc));subst this;obtain⟨o,q1,q2⟩:=cell;exact⟨c',hc,o,hk _ _ q1,q2⟩
 cell:=fun y c h=>by
  obtain⟨v,o,q1,q2⟩:=I.cell y c (S.sub' h);exact⟨v,o,hk _ _ q1,q2⟩
 free:=I.hok.fresh (Nat.le_refl _)
 freeC:=fun y c h=>I.freeC y c (S.sub' h)
 pin:=fun p hp=>by
  have hp':p∈X.pn++pins:=by
   have q:p∈(X.pn++pins)++[]:=hp;rw[List.append_nil]at q;exact q
  obtain⟨e,n,ne,nf,d⟩:=I.pin p hp';refine⟨hk _ _ e,n,Nat.ne_of_lt (Heap.lt_size e),fun z=>?_,d⟩;rcases List.mem_cons.mp (I.stkSub p.1 z)with q | q
  · exact ne q
  exact nf q
 hok:=I.hok.kept hk
 len:=by
  show(seen σ js).length=N'.length;rw[S.nm];unfold seen;simp
theorem comp_back{s':Shared}{σ':L2.St}{H':Hp}{h':Heap}(I:Inv X pins σ H s)(hf:∀ b∈fp,FpOk X pins H b)(J:Inv (compCx X scope cl N' s H fp pins) [] σ' H' s')(hs:Heap.SameBut s.heap.objs.size s'.heap h') :
 Inv X pins σ H' { s' with heap:=h' }:=by
 have ne:∀ b o,s.heap.get? b=some o->b≠s.heap.objs.size:=fun b o e=>Nat.ne_of_lt (Heap.lt_size e);have u0:Un (frs X.stack) fp H H' s.heap s'.heap:=J.base;have u:Un (frs X.stack) fp H H' s.heap h':=
  ⟨fun b o e n h1 h2=>(hs.2 b (ne b o e)).trans (u0.keep b o e n h1 h2),fun b o e n h1 h2=>let⟨sl,q⟩:=u0.slot b o e n h1 h2;⟨sl,(hs.2 b (ne b o e)).trans q⟩,u0.free,
   fun b o e h2=>let⟨o',q⟩:=u0.there b o e h2;⟨o',(hs.2 b (ne b o e)).trans q⟩,u0.tups,u0.frzs,u0.tbls⟩
 have hfree:H' s.heap.objs.size=none:=J.free;have hok:HOk X.prog X.w H' h':=fun b ob e=>by
  refine(J.hok b ob e).stay (fun c w' hc q=>(hs.2 c ?_).trans q) (fun _ q=>q) fun _ _ q=>q;rintro rfl;rcases hc with rfl | hc
  · rw[hfree]at e;cases e
  rw[hfree]at hc;cases hc
 exact I.call' (s':={ s' with heap:=h' }) J.os u hok J.bare fun b hb=>⟨(hf b hb).2.2.2.1,(hf b hb).2.1,(hf b hb).2.2.2.2.1,(hf b hb).2.2.2.2.2⟩
end
theorem comp_loop{prog:Program}{w:World}{A:Around}{R:Result->Shared->Prop}{s:Shared}{elt target iter:Expr}{ifs:List Expr}{scope:Scope}{pos:Pos}{it acc:Value}{env:Env}(I:Nat->Shared->Prop)
 (turn:∀ n s,I n s->wpAny (model prog w) A (pyNext it) (fun r s₁=>match r with
  | none=>R (.ok .next) s₁
  | some v=>wpAny (model prog w) A (letOwnedTupleGo target it v) (fun _ s₁'=>wpAny (model prog w) A (assign target env v) (fun _ s₂=>
   wpAny (model prog w) A (forIn ifs true fun c r=>if r=true then do let ok ← isTrue c env (eval c env);pure (ForInStep.yield ok)else pure (ForInStep.yield r)) (fun ok s₃=>
    if ok=true then wpAny (model prog w) A (eval elt env) (fun x s₄=>
     wpAny (model prog w) A (call (.builtin "list.append") [acc,x]) (fun _ s₅=>∃ m,m < n/\I m s₅) (fun _ _=>False) s₄) (fun _ _=>False) s₃
    else ∃ m,m < n/\I m s₃) (fun _ _=>False) s₂) (fun _ _=>False) s₁') (fun _ _=>False) s₁) (fun _ _=>False) s)
 (n:Nat) (h:I n s):codeAny (model prog w) A (.compLoop (.ListComp elt [⟨target,iter,ifs,0⟩] scope pos) 0 it acc env) R s:=by
 refine codeAny_loop rfl I (fun n s hI=>?_) n h;show wpAny _ A ((compTurn (.ListComp elt [⟨target,iter,ifs,0⟩] scope pos) 0 it acc env).onRaise (fun x=>do noteFrame x env;theTreesLotGoes x)) _ _ s;refine wpAny_noted ?_;rw[compTurn_list];refine wpAny_bind (wpAny_standAt (wpAny_bind (wpAny_mono (turn n s hI) (fun r s₁ h₁=>?_) fun _ _ h'=>h'.elim)));cases r with
 | none=>exact wpAny_pure h₁
 | some v=>
   refine wpAny_bind (wpAny_mono h₁ (fun _ s₁' h₁'=>?_) fun _ _ h'=>h'.elim);refine wpAny_bind (wpAny_mono h₁' (fun _ s₂ h₂=>wpAny_bind (wpAny_mono h₂ (fun ok s₃ h₃=>?_) fun _ _ h'=>h'.elim)) fun _ _ h'=>h'.elim);cases ok with
   | false=>exact wpAny_pure ⟨rfl,h₃⟩
   | true=>
     exact wpAny_bind (wpAny_bind (wpAny_mono h₃ (fun x s₄ h₄=>wpAny_bind (wpAny_mono h₄ (fun _ s₅ h₅=>wpAny_pure (wpAny_pure ⟨rfl,h₅⟩)) fun _ _ h'=>h'.elim)) fun _ _ h'=>h'.elim))
noncomputable def PTs(X:Cx)(ifs:List Expr)(t:TT):Prop:=
 ∀(pins:List (Addr×Obj)) (s:Shared) (σ:L2.St) (H:Hp) (Q:Bool->Hp->Prop) (E:Value->Shared->Prop),(∀ e s',X.xe e s'->E e s')->Inv X pins σ H s->t σ H Q ->
   wpAny (model X.prog X.w) X.A (forIn ifs true fun c r=>if r=true then do let ok ← isTrue c X.env (eval c X.env);pure (ForInStep.yield ok)else pure (ForInStep.yield r)) (TP X pins σ Q) E s
theorem pts_nil{X:Cx}:PTs X [] (fun _ H Q=>Q true H):=fun _ _ _ H _ _ _ I h=>wpAny_tests_nil ⟨H,I,h⟩
theorem pts_one{X:Cx}{c:Expr}{tc:TT}(hc:PT X c tc):PTs X [c] tc:=fun pins s σ H Q E hE I h=>wpAny_tests_one (wpAny_mono (hc pins s σ H Q I h) (fun _ _ q=>q) hE)
noncomputable def tComp(js:List Nat)(wi:TI)(tt:TT)(te:TE):TE:=fun σ H Q=>wi σ H fun J H1=>∀ D,H1 D=none -> ∃ W:Nat->Nat->L2.St->Hp->Prop,(∃ m,W 0 m (seen σ js) (upd H1 D (.lst []))) /\
 ∀ i m σ' H',W i m σ' H'->(J.stop i H'/\Q (.ref D) H')∨(J.go i H' /\ ∀ x H2,J.yld i H' x H2->tt (σ'.set 0 (some x)) H2 fun ok H3=>
   if ok=true then te (σ'.set 0 (some x)) H3 fun y H4=>∃ ys,H4 D=some (.lst ys)/\ys.length < sizeLine /\ ∃ m',m' < m/\W (i+1) m' (σ'.set 0 (some x)) (upd H4 D (.lst (ys++[y])))
   else ∃ m',m' < m/\W (i+1) m' (σ'.set 0 (some x)) H3)
section
variable{X:Cx}{scope:Scope}{cl:List (Str×Addr)}{x:Str}{js:List Nat}{N':List Str}{elt iter:Expr}{ifs:List Expr}{px pos:Pos}{wi:TI}{tt:TT}{te:TE}
theorem comp_core{RR:Value->Addr->Result->Shared->Prop}{pins:List (Addr×Obj)}{σ:L2.St}{H2:Hp}{s2:Shared}{Q:VK}{it:Addr}{fp:List Addr}{tn:Nat->Heap->Prop}{J:It}(S:CompScope X scope cl x js N')(nd:N'.Nodup)(hc:X.calm=true)
 (ht:∀ s H fp pins,PTs (compCx X scope cl N' s H fp pins) ifs tt) (he:∀ s H fp pins,PE (compCx X scope cl N' s H fp pins) elt te)
 (I2:Inv X pins σ H2 s2) (T:Turn X.prog X.w X.K (.Name x px) J fp it tn) (st2:tn 0 s2.heap) (f2:∀ b∈fp,FpOk X pins H2 b)
 (k:∀ D,H2 D=none -> ∃ W:Nat->Nat->L2.St->Hp->Prop,(∃ m,W 0 m (seen σ js) (upd H2 D (.lst []))) /\
  ∀ i m σ' H',W i m σ' H'->(J.stop i H'/\Q (.ref D) H')∨(J.go i H' /\ ∀ x H2,J.yld i H' x H2->tt (σ'.set 0 (some x)) H2 fun ok H3=>
    if ok=true then te (σ'.set 0 (some x)) H3 fun y H4=>∃ ys,H4 D=some (.lst ys)/\ys.length < sizeLine /\ ∃ m',m' < m/\W (i+1) m' (σ'.set 0 (some x)) (upd H4 D (.lst (ys++[y])))
    else ∃ m',m' < m/\W (i+1) m' (σ'.set 0 (some x)) H3))
 (fin:∀(D C:Addr) (s6:Shared) (H6:Hp) (m:Str->Option Value),s6.heap.Ns C m->(∀ h',Heap.SameBut C s6.heap h'->Inv X pins σ H6 { s6 with heap:=h' })->H6 C=none->FpOk X pins H6 C->Q (.ref D) H6->RR (.ref D) C (.ok .next) s6) :
 wpAny (model X.prog X.w) X.A (newList []) (fun acc s₃=>wpAny (model X.prog X.w) X.A (newFunctionEnv scope X.env.globals cl [] X.env.qual none .none (some X.env)) (fun cenv s₄=>
  codeAny (model X.prog X.w) X.A (.compStart (.ListComp elt [⟨.Name x px,iter,ifs,0⟩] scope pos) 0 (.ref it) acc { cenv with scope:=relabel scope X.env }) (RR acc cenv.locals) s₄) X.xe s₃) X.xe s2:=by
 have hDn:H2 s2.heap.objs.size=none:=I2.hok.fresh (Nat.le_refl _);obtain⟨W,⟨m0,w0⟩,turn⟩:=k s2.heap.objs.size hDn;refine wpAny_newObj_type (wpAny_newFunctionEnv S.nocell (by intro y hy;simp at hy) (fun h4 hns4 hsb4=>?_) S.kind) (by show 0<=sizeLine;exact Nat.zero_le _)
 have I3:Inv X pins σ (upd H2 s2.heap.objs.size (.lst [])) { s2 with heap:=s2.heap.push { cls:=.type "list",dict:=none,data:=.seq ([]:List Value).toArray } }:=
  I2.laid (t':=s2.toks) (fun b u e=>Heap.get?_push_of_some _ e) (Nat.le_refl _) ⟨Nat.zero_le _,[],0,.nil,Heap.get?_push_size _ rfl⟩
 have ltf:∀ b∈fp,b < s2.heap.objs.size:=fun b hb=>let⟨o,e,_⟩:=T.obj 0 _ st2 b hb;Heap.lt_size e;have f3:∀ b∈fp,FpOk X pins (upd H2 s2.heap.objs.size (.lst [])) b:=fun b hb=>⟨by rw[upd_ne (Nat.ne_of_lt (ltf b hb))];exact(f2 b hb).1,(f2 b hb).2⟩
 generalize hH:upd H2 s2.heap.objs.size (.lst [])=H3 at *;generalize hS3:({ s2 with heap:=s2.heap.push { cls:=.type "list",dict:=none,data:=.seq ([]:List Value).toArray } }:Shared)=s3 at *;have o3:∀ b∈fp,b < s3.heap.objs.size:=fun b hb=>by
  rw[← hS3];show b < (s2.heap.push _).objs.size;rw[Heap.size_push];exact Nat.lt_succ_of_lt (ltf b hb)
 have k4:∀ b o,s3.heap.get? b=some o->h4.get? b=some o:=fun b o e=>(hsb4.2 b (Nat.ne_of_lt (Heap.lt_size e))).trans (Heap.get?_push_of_some _ e);have st3:tn 0 s3.heap:=T.keep 0 _ _ st2 fun b hb o e=>by rw[← hS3];exact Heap.get?_push_of_some _ e
 have st4:tn 0 h4:=T.keep 0 _ _ st3 fun b hb o e=>k4 b o e;have I4:Inv (compCx X scope cl N' s3 H3 fp pins) [] (seen σ js) H3 { s3 with heap:=h4,toks:=s3.toks+([]:List (Str×Value)).length }:=comp_inv S I3 f3 o3 rfl rfl hns4 k4;have ok:=comp_ok S I3 f3 o3;have fp5:∀{H':Hp},(∀ b∈fp,H' b=none) -> ∀ b∈fp,FpOk (compCx X scope cl N' s3 H3 fp pins) [] H' b:=fun hn b hb=>
  ⟨hn b hb,Nat.ne_of_lt (o3 b hb),ok.exfs b hb,.inl hb,fun y c h=>(f3 b hb).2.2.2.2.1 y c (S.sub' h),fun p hp=>(f3 b hb).2.2.2.2.2 p (by
   have q:p∈(X.pn++pins)++[]:=hp;rw[List.append_nil]at q;exact q)⟩
 have loop:codeAny (model X.prog X.w) X.A (.compLoop (.ListComp elt [⟨.Name x px,iter,ifs,0⟩] scope pos) 0 (.ref it) (.ref s2.heap.objs.size) (compEnvC scope cl s3.heap.objs.size X.env))
  (RR (.ref s2.heap.objs.size) s3.heap.objs.size) { s3 with heap:=h4,toks:=s3.toks+([]:List (Str×Value)).length }:=by
  refine comp_loop (fun n s'=>∃ i σ' H',Inv (compCx X scope cl N' s3 H3 fp pins) [] σ' H' s'/\tn i s'.heap/\(∀ b∈fp,H' b=none)/\W i n σ' H') ?_ m0 ⟨0,_,_,I4,st4,fun b hb=>(f3 b hb).1,w0⟩;rintro n s5 ⟨i,σ5,H5,I5,st5,fr5,w5⟩;rcases turn i n σ5 H5 w5 with ⟨stop,q⟩ | ⟨go,step⟩
  · refine wpAny_mono (T.done (compCx X scope cl N' s3 H3 fp pins) rfl rfl rfl hc i [] s5 σ5 H5 (fun _ _=>False) I5 (fp5 fr5) st5 stop) (fun r s6 ⟨hr,I6⟩=>?_) (fun _ _ z=>z.elim)
    subst hr;obtain⟨m,hm,_⟩:=I6.loc;exact fin _ _ s6 H5 m hm (fun h' hs'=>comp_back I3 f3 I6 hs') I6.free (I3.fpOk (Nat.le_refl _) I6.free) q
  refine wpAny_mono (T.item (compCx X scope cl N' s3 H3 fp pins) rfl rfl rfl hc i [] s5 σ5 H5 (fun _ _=>False) I5 (fp5 fr5) st5 go) (fun r s6 ⟨u,hr,h6⟩=>?_) (fun _ _ z=>z.elim);subst hr;refine wpAny_mono h6 (fun _ s6 ⟨y,H6,I6,r6,y6,st6,fr6⟩=>?_) (fun _ _ z=>z.elim);have I6':=I6.pinned (fp5 fr6) (T.obj _ _ st6);have again:∀{σ7:L2.St}{H7:Hp}{s7:Shared}{m':Nat},Inv (compCx X scope cl N' s3 H3 fp pins) ([]++pinsAt fp s6.heap) σ7 H7 s7->m' < n->W (i+1) m' σ7 H7 ->
   ∃ m,m < n /\ ∃ i σ' H',Inv (compCx X scope cl N' s3 H3 fp pins) [] σ' H' s7/\tn i s7.heap/\(∀ b∈fp,H' b=none)/\W i m σ' H':=fun {σ7 H7 s7 m'} I7 hm w7=>by
   refine⟨m',hm,i+1,σ7,H7,I7.unpinned,T.keep _ _ _ st6 fun b hb o e=>(I7.pin (b,o) (List.mem_append_right _ (List.mem_append_right _ (mem_pinsAt hb e)))).1,fun b hb=>?_,w7⟩;obtain⟨o,e,d⟩:=T.obj _ _ st6 b hb;exact(I7.pin (b,o) (List.mem_append_right _ (List.mem_append_right _ (mem_pinsAt hb e)))).2.1
  have step':=step y H6 y6;refine wpAny_mono (pg_name (X:=compCx X scope cl N' s3 H3 fp pins) (i:=0) (x:=x) (pos:=px) nd (by show N'[0]?=some x;rw[S.nm];rfl) (.inl (lookup_relabel_local S.own)) (.inr (lookup_relabel_local S.own)) _ s6 σ5 H6 y u
   (fun σ' H'=>σ'=σ5.set 0 (some y)/\H'=H6) I6' r6 ⟨rfl,rfl⟩) (fun _ s7 ⟨σ7,H7,I7,e7,eH⟩=>?_) (fun _ _ z=>z.elim)
  subst e7;subst eH;refine wpAny_mono (ht s3 H3 fp pins _ s7 _ H7 _ (fun _ _=>False) (fun _ _ z=>z) I7 step') (fun okk s8 ⟨H8,I8,q8⟩=>?_) (fun _ _ z=>z.elim);cases okk with
  | false=>
    obtain⟨m',hm,w8⟩:=q8;exact again I8 hm w8
  | true=>
    refine wpAny_mono (he s3 H3 fp pins _ s8 _ H8 _ I8 q8) (fun ev s9 ⟨z,H9,I9,r9,ys,hys,hlen,m',hm,w9⟩=>?_) (fun _ _ z=>z.elim);refine wpAny_mono (mt_append (X:=compCx X scope cl N' s3 H3 fp pins) _ s9 _ H9 (.ref s2.heap.objs.size) [z] (.ref s2.heap.objs.size) [ev] (fun _ H'=>H'=upd H9 s2.heap.objs.size (.lst (ys++[z]))) I9 rfl (.cons r9 .nil)
     ⟨_,ys,z,rfl,rfl,hys,hlen,rfl⟩) (fun _ s10 ⟨_,H10,I10,_,e10⟩=>?_) (fun _ _ z=>z.elim)
    subst e10;exact again I10 hm w9
 exact codeAny_compStart_list loop (T.self X.A 0 _ _ _ st4 loop)
theorem pe_comp(S:CompScope X scope cl x js N')(nd:N'.Nodup)(hc:X.calm=true)(hi:PI X (.Name x px) iter wi)
 (ht:∀ s H fp pins,PTs (compCx X scope cl N' s H fp pins) ifs tt) (he:∀ s H fp pins,PE (compCx X scope cl N' s H fp pins) elt te)
 (hs:∀ x,foldedSetIterable iter X.env x=pure x:=by intro _;rfl):PE X (.ListComp elt [⟨.Name x px,iter,ifs,0⟩] scope pos) (tComp js wi tt te):=by
 intro pins s σ H Q I h;rw[eval_ListComp];refine wpAny_comprehension_free (use:=none) rfl hs S.clos S.kind S.names (thn (hi pins s σ H _ I h) fun v s1 h1=>thn h1 fun itv s2 h2=>?_);obtain⟨it,fp,tn,J,H2,e,I2,T,st2,f2,k⟩:=h2;subst e;exact comp_core (RR:=fun acc C=>compPost (model X.prog X.w) X.A X.xe none (EP X pins σ Q) acc C) S nd hc ht he I2 T st2 f2 k fun D C s6 H6 m hm back _ _ q=>⟨m,hm,fun h' hs'=>⟨.ref D,H6,back h' hs',rfl,q⟩⟩
noncomputable def tCompSet(i:Nat)(t:TE):TS:=fun D σ H=>t σ H fun v H1=>D.nx (σ.set i (some v)) H1
theorem ps_compSet{i:Nat}{y:Str}{py spos:Pos}(S:CompScope X scope cl x js N')(nd:N'.Nodup)(hc:X.calm=true)(hi:PI X (.Name x px) iter wi)
 (ht:∀ s H fp pins,PTs (compCx X scope cl N' s H fp pins) ifs tt) (he:∀ s H fp pins,PE (compCx X scope cl N' s H fp pins) elt te)
 (hN:X.N.Nodup) (hy:X.N[i]?=some y) (hl:Loc X.env.scope y) (hf:X.fn y=true∨X.env.scope.names.lookup y=some .local)
 (hsw:swapsWith (.ListComp elt [⟨.Name x px,iter,ifs,0⟩] scope pos) (some (.Name y py)) spos.line X.env=pure true)
 (hs:∀ x,foldedSetIterable iter X.env x=pure x:=by intro _;rfl):PS X (.Assign [.Name y py] (.ListComp elt [⟨.Name x px,iter,ifs,0⟩] scope pos) spos) (tCompSet i (tComp js wi tt te)):=by
 intro pins s σ H D I h;rw[exec_Assign_Name_used _ _ _ _ hsw];refine wpAny_bind (wpAny_standAt (wpAny_bind ?_));show wpAny _ X.A (do let _ ← comprehension (.ListComp elt [⟨.Name x px,iter,ifs,0⟩] scope pos) scope X.env _ (newList []) false (eval iter X.env) (some (assign (.Name y py) X.env))) _ _ s;refine wpAny_bind (wpAny_mono (wpAny_comprehension_free (use:=some (assign (.Name y py) X.env)) (Q:=fun _ s'=>SP X pins D .next s') rfl hs S.clos S.kind S.names
  (thn (hi pins s σ H _ I h) fun v s1 h1=>thn h1 fun itv s2 h2=>?_)) (fun _ s' hq=>wpAny_pure (wpAny_pure hq)) fun _ _ e=>e)
 obtain⟨it,fp,tn,J,H2,e,I2,T,st2,f2,k⟩:=h2;subst e;refine comp_core (Q:=fun v H1=>D.nx (σ.set i (some v)) H1) (RR:=fun acc C=>compPost (model X.prog X.w) X.A X.xe (some (assign (.Name y py) X.env)) (fun _ s'=>SP X pins D .next s') acc C) S nd hc ht he I2 T st2 f2 k fun A C s6 H6 m hm back hC fC q=>?_;have I6:Inv X pins σ H6 s6:=back s6.heap (Heap.SameBut.refl ..);obtain⟨oC,es,ep,hoC,hdC,hr⟩:=id hm;have I7:Inv X (pins++[(C,oC)]) σ H6 s6:=I6.pins_of fun p hp=>by
  rcases List.mem_append.mp hp with z | z
  · exact I6.pin p (List.mem_append_right _ z)
  rw[List.mem_singleton.mp z];exact⟨hoC,hC,fC.2.1,fC.2.2.1,fun v e=>by rw[hdC]at e;cases e⟩
 show wpAny _ X.A (assign (.Name y py) X.env (.ref A)) _ _ s6;refine thn (pg_name hN hy hl hf _ s6 σ H6 (.ref A) (.ref A) (fun σ' H'=>σ'=σ.set i (some (.ref A))/\H'=H6) I7 rfl ⟨rfl,rfl⟩) fun _ s8 zz=>?_;obtain⟨σ8,H8,I8,e8,e9⟩:=zz;subst e8;subst e9;have h8:s8.heap.get? C=some oC:=(I8.pin (C,oC) (List.mem_append_right _ (List.mem_append_right _ (List.mem_singleton.mpr rfl)))).1;refine⟨m,⟨oC,es,ep,h8,hdC,hr⟩,fun h' hs'=>⟨_,H8,?_,q⟩⟩;have I9:Inv X pins (σ.set i (some (.ref A))) H8 s8:=I8.pins_of fun p hp=>I8.pin p (List.mem_append_right _ (List.mem_append_left _ hp));exact I9.turned (t':=s8.toks) (fun b o hb e=>(hs'.2 b hb).trans e) hC fC.2.1 fC.2.2.2.1 fC.2.2.2.2.1 fC.2.2.2.2.2
end
noncomputable def SubCl(cells:List (Str×Addr)):List (Str×Addr)->Prop
 | []=>True
 | p::r=>cells.lookup p.1=some p.2/\SubCl cells r
theorem SubCl.all{cells:List (Str×Addr)}:∀{cl:List (Str×Addr)},SubCl cells cl -> ∀ p∈cl,cells.lookup p.1=some p.2
 | _::_,h,p,hp=>by
   rcases List.mem_cons.mp hp with rfl | hp
   · exact h.1
   exact SubCl.all h.2 p hp
noncomputable def isCF(k:Option NameKind):Bool:=k == some .cell || k == some .free
theorem isCF_of{k:Option NameKind}(h:isCF k=true):k=some .cell∨k=some .free:=by
 unfold isCF at h;rw[Bool.or_eq_true]at h;exact h.imp beq_iff_eq.mp beq_iff_eq.mp
theorem CompScope.of{X:Cx}{scope:Scope}{cl:List (Str×Addr)}{x:Str}{js:List Nat}{N':List Str}(clos:closureFor scope X.env=pure cl)(kind:scope.kind=.function)(nocell:scope.names.all (fun y=>y.2 != .cell)=true)
 (names:scope.names.all (fun y=>y.2 != .local || scope.names.lookup y.1 == some .local)=true) (own:scope.names.lookup x=some .local) (sub:SubCl X.env.cells cl)
 (has:(relabel scope X.env).names.all (fun p=>!isCF (some p.2) || (cl.lookup p.1).isSome)=true) (nm:N'=x::js.map fun j=>X.N.getD j Str.empty)
 (see:js.all (fun j=>match X.N[j]? with | some y=>isCF (X.env.kindOf y) && isCF ((relabel scope X.env).names.lookup y) | none=>false)=true):CompScope X scope cl x js N' where
 clos:=clos
 kind:=kind
 nocell:=fun y hy=>by
  have:=List.all_eq_true.mp nocell y hy;exact bne_iff_ne.mp this
 names:=fun y hy e=>by
  have:=List.all_eq_true.mp names y hy;rw[e]at this;exact beq_iff_eq.mp (by simpa using this)
 own:=own
 sub:=sub.all
 has:=fun y h=>by
  have go:∀ k,(relabel scope X.env).names.lookup y=some k->isCF (some k)=true -> ∃ c,cl.lookup y=some c:=fun k hk hc=>by
   have:=List.all_eq_true.mp has (y,k) (PySem.mem_of_lookup hk);simp only[hc,Bool.not_true,Bool.false_or]at this;exact Option.isSome_iff_exists.mp this
  rcases h with h | h
  · exact go _ h rfl
  exact go _ h rfl
 nm:=nm
 see:=fun i j e=>by
  have:=List.all_eq_true.mp see j (List.mem_of_getElem? e);cases ey:X.N[j]? with
  | none=>rw[ey]at this;cases this
  | some y=>
    rw[ey]at this;rw[Bool.and_eq_true]at this;exact⟨y,rfl,isCF_of this.1,isCF_of this.2⟩
namespace B
section
variable{X:Cx}{scope:Scope}{cl:List (Str×Addr)}{x:Str}{N':List Str}{elt iter c:Expr}{px pos:Pos}{wi:TI}{te:TE}{tc:TT}
theorem comp(js:List Nat)(N':List Str)(S:CompScope X scope cl x js N')(nd:N'.Nodup)(hi:Bx (PI X (.Name x px) iter wi))(he:∀ s H fp pins,Bx (PE (compCx X scope cl N' s H fp pins) elt te))(hc:X.calm=true:=by rfl)
 (hs:∀ x,foldedSetIterable iter X.env x=pure x:=by intro _;rfl):Bx (PE X (.ListComp elt [⟨.Name x px,iter,[],0⟩] scope pos) (tComp js wi (fun _ H Q=>Q true H) te)):=
 ⟨pe_comp S nd hc hi.out (fun _ _ _ _=>pts_nil) (fun s H fp pins=>(he s H fp pins).out) hs⟩
theorem compIf(js:List Nat)(N':List Str)(S:CompScope X scope cl x js N')(nd:N'.Nodup)(hi:Bx (PI X (.Name x px) iter wi))(hcc:∀ s H fp pins,Bx (PT (compCx X scope cl N' s H fp pins) c tc))(he:∀ s H fp pins,Bx (PE (compCx X scope cl N' s H fp pins) elt te))(hc:X.calm=true:=by rfl)
 (hs:∀ x,foldedSetIterable iter X.env x=pure x:=by intro _;rfl):Bx (PE X (.ListComp elt [⟨.Name x px,iter,[c],0⟩] scope pos) (tComp js wi tc te)):=
 ⟨pe_comp S nd hc hi.out (fun s H fp pins=>pts_one (hcc s H fp pins).out) (fun s H fp pins=>(he s H fp pins).out) hs⟩
end
end B
section
variable{X:Cx}
end
theorem wComp{σ:L2.St}{H:Hp}{Q:VK}{js:List Nat}{wi:TI}{tt:TT}{te:TE}(h:wi σ H fun J H1=>∀ D,H1 D=none -> ∃ W:Nat->Nat->L2.St->Hp->Prop,(∃ m,W 0 m (seen σ js) (upd H1 D (.lst []))) /\
 ∀ i m σ' H',W i m σ' H'->(J.stop i H'/\Q (.ref D) H')∨(J.go i H' /\ ∀ x H2,J.yld i H' x H2->tt (σ'.set 0 (some x)) H2 fun ok H3=>
   if ok=true then te (σ'.set 0 (some x)) H3 fun y H4=>∃ ys,H4 D=some (.lst ys)/\ys.length < sizeLine /\ ∃ m',m' < m/\W (i+1) m' (σ'.set 0 (some x)) (upd H4 D (.lst (ys++[y])))
   else ∃ m',m' < m/\W (i+1) m' (σ'.set 0 (some x)) H3)):tComp js wi tt te σ H Q:=h
theorem ix_tupK(K:W.Frag){X:Cx}(h:X.K=K:=by rfl):IxR X (rIxT K):=by subst h;exact ix_tup
theorem ix_listK(K:W.Frag){X:Cx}(h:X.K=K:=by rfl):IxR X (rIxL K):=by subst h;exact ix_list
mutual
inductive DatV(K:W.Frag)(H:Hp):V->PyData->Prop
 | non:DatV K H .non .none
 | bl (b:Bool):DatV K H (.bl b) (.bool b)
 | int (i:Int):DatV K H (.int i) (.int i)
 | str (x:PySem.Str):DatV K H (.str x) (.str x)
 | lst {a:Addr}{xs:List V}{ds:List PyData} (h:SqL K H a xs) (r:DatVs K H xs ds):DatV K H (.ref a) (.list ds)
 | tup {a:Addr}{xs:List V}{ds:List PyData} (h:SqT K H a xs) (r:DatVs K H xs ds):DatV K H (.ref a) (.tuple ds)
inductive DatVs(K:W.Frag)(H:Hp):List V->List PyData->Prop
 | nil:DatVs K H [] []
 | cons {x:V}{xs:List V}{d:PyData}{ds:List PyData} (h:DatV K H x d) (r:DatVs K H xs ds):DatVs K H (x::xs) (d::ds)
end
section
variable{X:Cx}{pins:List (Addr×Obj)}{σ:L2.St}{H:Hp}{s:Shared}
mutual
theorem reads_of(I:Inv X pins σ H s):∀{v:V}{d:PyData}{u:Value},DatV X.K H v d->RelV v u -> ∃ as,Reads s.heap u d as
 | _,_,u,.non,r=>by
   cases (show u=Value.none from r);exact⟨_,.none⟩
 | _,_,u,.bl b,r=>by
   cases (show u=Value.bool b from r);exact⟨_,.bool b⟩
 | _,_,u,.int i,r=>by
   obtain⟨t,e⟩:=(show ∃ t,u=Value.int i t from r);cases e;exact⟨_,.int i t⟩
 | _,_,u,.str x,r=>by
   obtain⟨t,e⟩:=(show ∃ t,u=Value.str x t from r);cases e;exact⟨_,.str x t⟩
 | _,_,u,.lst (a:=a) h q,r=>by
   cases (show u=Value.ref a from r);obtain⟨its,rv,⟨o,n,e,c,_,d⟩,_⟩:=I.list h;obtain⟨as,z⟩:=reads_all I q rv;exact⟨_,.list e c d (by simpa using z)⟩
 | _,_,u,.tup (a:=a) h q,r=>by
   cases (show u=Value.ref a from r);obtain⟨its,rv,⟨o,e,c,n,d⟩,_⟩:=I.tuple h;obtain⟨as,z⟩:=reads_all I q rv;exact⟨_,.tuple e c d (by simpa using z)⟩
theorem reads_all(I:Inv X pins σ H s):∀{xs:List V}{ds:List PyData}{us:List Value},DatVs X.K H xs ds->Vals xs us -> ∃ as,ReadsAll s.heap us ds as
 | _,_,_,.nil,.nil=>⟨_,.nil⟩
 | _,_,_,.cons h r,.cons q qs=>by
   obtain⟨a1,z1⟩:=reads_of I h q;obtain⟨a2,z2⟩:=reads_all I r qs;exact⟨_,.cons z1 z2⟩
end
noncomputable def rNeD(K:W.Frag):R2:=fun x y H Q=>∃ d e,DatV K H x d/\DatV K H y e/\d.canLay0=true/\e.canLay0=true/\d.depth<=60/\Q (.bl (!PyData.eqv d e)) H
theorem op_neD(K:W.Frag)(hu:X.A.units+64 < cLine)(hK:X.K=K:=by rfl):OpR X (compareOp .NotEq) (rNeD K):=by
 subst hK;intro pins s σ H x y v u Q I rx ry h;obtain⟨d,e,hd,he,c1,c2,dp,q⟩:=h;obtain⟨as,r1⟩:=reads_of I hd rx;obtain⟨bs,r2⟩:=reads_of I he ry;exact SeqAt.compareNe_reads r1 r2 c1 c2 (by omega) ⟨.bl _,H,I,rfl,q⟩
end
noncomputable def ViewO(v d:Addr):HO:=.ext fun h=>h.IsItemsView v d
noncomputable def over(n:Nat)(H N:Hp):Hp:=fun b=>if b < n then H b else N b
theorem over_old{n:Nat}{H N:Hp}{b:Addr}(h:b < n):over n H N b=H b:=if_pos h
theorem over_new{n:Nat}{H N:Hp}{b:Addr}(h:n<=b):over n H N b=N b:=if_neg (Nat.not_lt.mpr h)
section
variable{X:Cx}{pins:List (Addr×Obj)}{σ:L2.St}{H N:Hp}{s:Shared}{h':Heap}
theorem Inv.over{t':Nat}(I:Inv X pins σ H s)(k:∀ b u,s.heap.get? b=some u->h'.get? b=some u)(new:∀ b o,s.heap.objs.size<=b->N b=some o->ObjOk X.prog X.w (over s.heap.objs.size H N) h' b o) :
 Inv X pins σ (over s.heap.objs.size H N) { s with heap:=h',toks:=t' }:=by
 have lt:∀ b o,H b=some o->b < s.heap.objs.size:=fun b o e=>I.hok.lt e;refine I.un ⟨fun b u q _ _ _=>k b u q,fun b u q _ _ _=>⟨u.slots,k b u q⟩,fun b u q n _=>?_,fun b u q _=>⟨u,k b u q⟩,fun b xs q=>?_,fun b u xs q=>?_,fun b ps q=>⟨#[],?_⟩⟩ fun b o e=>?_
 · rw[over_old (Heap.lt_size q)];exact n
 · rw[over_old (lt _ _ q)];exact q
 · rw[over_old (lt _ _ q)];exact q
 · rw[over_old (lt _ _ q),q];simp
 by_cases hb:b < s.heap.objs.size
 · rw[over_old hb]at e
   exact(I.hok b o e).stay (fun c v _ q=>k c v q) (fun c q=>by rw[over_old (lt _ _ q)];exact q) fun c xs q=>by rw[over_old (lt _ _ q)];exact q
 have hb:=Nat.not_lt.mp hb;rw[over_new hb]at e;exact new b o hb e
end
noncomputable def newIt(l:Addr)(as:List Addr)(kvs:List (Key×V)):Hp:=fun b=>if b=l then some (.lst (as.map V.ref))else((as.zip kvs).find? fun p=>decide (p.1=b)).map fun p=>.tup [kV p.2.1,p.2.2]
theorem newIt_at{l:Addr}{as:List Addr}{kvs:List (Key×V)}(nd:as.Nodup):∀{j:Nat}{a:Addr}{k:Key}{x:V},a≠l->as[j]?=some a->kvs[j]?=some (k,x)->newIt l as kvs a=some (.tup [kV k,x]):=by
 intro j a k x hl h1 h2;unfold newIt;rw[if_neg hl];have key:∀(as:List Addr) (kvs:List (Key×V)) (j:Nat),as.Nodup->as[j]?=some a->kvs[j]?=some (k,x)->((as.zip kvs).find? fun p=>decide (p.1=a))=some (a,(k,x)):=by
  intro as
  induction as with
  | nil=>intro kvs j _ h;simp at h
  | cons b as ih=>
    intro kvs j nd h1 h2;cases kvs with
    | nil=>simp at h2
    | cons p kvs=>
      cases j with
      | zero=>
        simp at h1 h2;subst h1;subst h2;simp
      | succ j=>
        simp at h1 h2;have hm:a∈as:=List.mem_of_getElem? h1;have hne:b≠a:=fun e=>(List.nodup_cons.mp nd).1 (e ▸ hm);rw[List.zip_cons_cons,List.find?_cons_of_neg (by simpa using hne)]
        exact ih kvs j (List.nodup_cons.mp nd).2 h1 h2
 rw[key as kvs j nd h1 h2]
 rfl
theorem newIt_inv{l:Addr}{as:List Addr}{kvs:List (Key×V)}{b:Addr}{o:HO}(hl:as.length=kvs.length)(h:newIt l as kvs b=some o):(b=l/\o=.lst (as.map V.ref)) ∨ ∃(j:Nat) (k:Key) (x:V),as[j]?=some b/\kvs[j]?=some (k,x)/\o=.tup [kV k,x]:=by
 unfold newIt at h;split at h
 · rename_i e
   exact .inl ⟨e,(Option.some.inj h).symm⟩
 obtain⟨p,hp,e⟩:=Option.map_eq_some_iff.mp h;have hm:=List.mem_of_find?_eq_some hp;have hb0:decide (p.1=b)=true:=List.find?_some (p:=fun p:Addr×(Key×V)=>decide (p.1=b)) hp;have hb:=of_decide_eq_true hb0;obtain⟨j,hj⟩:=List.mem_iff_getElem?.mp hm;rw[List.getElem?_zip_eq_some]at hj;exact .inr ⟨j,p.2.1,p.2.2,by rw[← hb];exact hj.1,hj.2,e.symm⟩
theorem kv_get:∀{kvs:List (Key×V)}{vs:List (Key×Value)}{j:Nat}{k:Key}{y:Value},KV kvs vs->vs[j]?=some (k,y) -> ∃ x,kvs[j]?=some (k,x)/\RelV x y
 | _,_,_,_,_,.nil,e=>by simp at e
 | _,_,0,_,_,.cons (a:=a) r _,e=>by
   simp at e;subst e;exact⟨a.2,by rw[List.getElem?_cons_zero];exact congrArg some (Prod.ext r.1 rfl),r.2⟩
 | _,_,j+1,_,_,.cons _ t,e=>by
   obtain⟨x,h1,h2⟩:=kv_get (j:=j) t (by simpa using e)
   exact⟨x,by simpa using h1,h2⟩
theorem vals_refs:∀ as:List Addr,Vals (as.map V.ref) (as.map Value.ref)
 | []=>.nil
 | _::as=>.cons rfl (vals_refs as)
section
variable{X:Cx}
end
section
variable{X:Cx}{o:Expr}{apos cpos:Pos}{td:TE}
noncomputable def tItems(td:TE):TE:=fun σ H Q=>td σ H fun x H1=>∃ a kvs,x=.ref a/\H1 a=some (.dK kvs) /\ ∀ v,H1 v=none->Q (.ref v) (upd H1 v (ViewO v a))
theorem pe_items(ho:PE X o td)(hbase:attributeBase o "items" X.env (eval o X.env)=eval o X.env:=by rfl)
 (hfew:((backTo cpos (starEach [] X.env)).all (fun x=>!x.1) && (backToKw cpos (keywordEach [] X.env)).all (fun x=>x.1.isSome) && decide (([]:List Expr).length+([]:List Keyword).length+(if([]:List Keyword).isEmpty then 0 else 1) < 30))=true:=by rfl)
 (hline:(apos.endLine == cpos.line)=true:=by rfl):PE X (.Call (.Attribute o "items" apos) [] [] cpos) (tItems td):=by
 intro pins s σ H Q I h;refine wpAny_Call_method hbase hfew hline PySem.F.plainAttrs_dict PySem.F.slot_dict_items PySem.F.type_dict_items (thn (ho pins s σ H _ I h) fun u s1 zz=>?_);obtain⟨x,H1,I1,rx,a,kvs,ex,ha,q1⟩:=zz;subst ex;obtain rfl:u=Value.ref a:=rx;obtain⟨t1,t2,_⟩:=isD_at I1 (.inl ⟨kvs,.inl ha⟩);refine⟨t1,t2,?_⟩;obtain⟨z,hsys,vs,rel,dd⟩:=dk_rd I1.hok (.inl ha);have e0:backTo cpos (starEach [] X.env)=[]:=rfl;rw[e0];refine Calls.callWith_builtin rfl (PySem.evalArgs_none ?_);have lay:s1.heap.objs.size<=s1.heap.objs.size:=Nat.le_refl _;refine call_meetsIn PySem.F.slot_dict_items t1 PySem.F.entry_dict_items (PySem.F.args_dict_items_1 _) (meets_dict_items (mixKind X.prog X.w) a hsys) ⟨⟨vs,dd⟩,?_⟩;refine⟨.ref s1.heap.objs.size,upd H1 s1.heap.objs.size (ViewO s1.heap.objs.size a),I1.laid (t':=s1.toks) (fun b u e=>Heap.get?_push_of_some _ e) lay ?_,rfl,q1 _ (I1.hok.fresh lay)⟩;refine⟨⟨_,Heap.get?_push_size _ rfl,rfl,rfl⟩,⟨_,Heap.get?_push_size _ rfl⟩,fun h1 h2 ⟨o1,e1,c1,d1⟩ k=>⟨o1,k o1 e1,c1,d1⟩⟩
namespace B
theorem items(ho:Bx (PE X o td))(hbase:attributeBase o "items" X.env (eval o X.env)=eval o X.env:=by rfl)
 (hfew:((backTo cpos (starEach [] X.env)).all (fun x=>!x.1) && (backToKw cpos (keywordEach [] X.env)).all (fun x=>x.1.isSome) && decide (([]:List Expr).length+([]:List Keyword).length+(if([]:List Keyword).isEmpty then 0 else 1) < 30))=true:=by rfl)
 (hline:(apos.endLine == cpos.line)=true:=by rfl):Bx (PE X (.Call (.Attribute o "items" apos) [] [] cpos) (tItems td)):=⟨pe_items ho.out hbase hfew hline⟩
end B
end
structure Mt(P:Program)(w:World)(K:W.Frag)(mg:Str->Option Value)(base:Heap)(C:Addr)(m:Str)(k:Nat)(ps:List Str)(sp:Sp):Prop where
 ex:∃(f:Addr) (fd:FuncData),FnOk P w K mg base CX0 k f fd ps sp/\Meth K C m f/\Binds K fd ps []
structure Mkr(P:Program)(w:World)(K:W.Frag)(mg:Str->Option Value)(base:Heap)(C:Addr)(x:Str)(k:Nat)(ps:List Str)(sp:Sp):Prop where
 ex:∃(f:Addr) (fd:FuncData),FnOk P w K mg base CX0 k f fd ps sp/\Mk K C f/\mg x=some (.ref C)/\Binds K fd ps []
namespace B
section
variable{X:Cx}{x m f:Str}{p pos apos cpos tpos pos':Pos}{e o i value:Expr}{es:List Expr}{t:TA}{ta te ti tv td ty tx:TE}{k:Nat}{ps:List Str}{sp:Sp}{C:Addr}
theorem fld(he:Bx (PE X e ta))(hb:attributeBase e f X.env (eval e X.env)=eval e X.env:=by rfl):Bx (PE X (.Attribute e f pos) (tFld X.K ta f)):=⟨pe_fld he.out hb⟩
theorem sfld(ha:Bx (PE X o ta))(hv:Bx (PE X value tv))(hs:swapsWith value (some (.Attribute o f pos')) pos.line X.env=pure false:=by rfl):Bx (PS X (.Assign [.Attribute o f pos'] value pos) (sFld X.K ta tv f)):=⟨ps_fld ha.out hv.out hs⟩
theorem dnew:Bx (PE X (.Dict [] [] pos) tDNewK):=⟨pe_dnewK⟩
theorem dput(hu:X.A.units+1 < cLine)(ho:Bx (PE X o td))(hi:Bx (PE X i ty))(hv:Bx (PE X value tv))(hs:swapsWith value (some (.Subscript o i pos')) pos.line X.env=pure false:=by rfl):Bx (PS X (.Assign [.Subscript o i pos'] value pos) (sDPut td ty tv)):=⟨ps_dput hu ho.out hi.out hv.out hs⟩
theorem m1{m:Str}(base:attributeBase o m X.env (eval o X.env)=eval o X.env:=by rfl)(h:plainE e=true:=by rfl)(line:(apos.endLine == cpos.line)=true:=by rfl):M1 X o m apos e cpos:=by
 have t:backTo cpos (starEach [e] X.env)=[(false,eval e X.env)]:=by rw[star_of h];rfl
 exact⟨base,by rw[t];rfl,line,t⟩
theorem m2{m:Str}{g:Expr}(base:attributeBase o m X.env (eval o X.env)=eval o X.env:=by rfl)(h:plainE e=true:=by rfl)(h':plainE g=true:=by rfl)(line:(apos.endLine == cpos.line)=true:=by rfl):M2 X o m apos e g cpos:=by
 have t:backTo cpos (starEach [e,g] X.env)=[(false,eval e X.env),(false,eval g X.env)]:=by rw[star_of h,star_of h'];rfl
 exact⟨base,by rw[t];rfl,line,t⟩
theorem dget1(hu:X.A.units+1 < cLine)(ho:Bx (PE X o td))(he:Bx (PE X e ty))(m:M1 X o "get" apos e cpos:=by exact m1):Bx (PE X (.Call (.Attribute o "get" apos) [e] [] cpos) (tDGet1 td ty)):=⟨pe_dget1 hu ho.out he.out m⟩
theorem dpop2{g:Expr}(ho:Bx (PE X o td))(he:Bx (PE X e ty))(hf:Bx (PE X g tx))(m:M2 X o "pop" apos e g cpos:=by exact m2):Bx (PE X (.Call (.Attribute o "pop" apos) [e,g] [] cpos) (tDPop2 td ty tx)):=⟨pe_dpop2 ho.out he.out hf.out m⟩
theorem meth(he:Bx (PE X o ta))(c:Cls X.K C)(M:Mt X.prog X.w X.K X.mg X.base C m k ps sp)(hr:Room k X.A)(ha:Bx (PA X (e::es) t))(h1:plainE e=true:=by rfl)(h2:es.all plainE=true:=by rfl)
 {pl:Sem Bool} (ht':eval (.Call (.Attribute o m apos) (e::es) [] pos) X.env=(do
  let ov ← eval o X.env
  standAt apos.atName
  let(f,first) ← holding [ov] (getMethod ov m pl)
  callWith pos f first (backTo pos (starEach (e::es) X.env)) (backToKw pos (keywordEach [] X.env))):=by rfl) :
 Bx (PE X (.Call (.Attribute o m apos) (e::es) [] pos) (tMeth C m sp [] E0 ta t)):=by
 obtain⟨f,fd,G,hm,b⟩:=M.ex;exact⟨pe_meth he.out c hm G hr b .nil pass0 ha.out (star_of h1) (star_any h2) ht'⟩
end
end B
namespace B
end B
structure Dm(K:W.Frag)(C:Addr)(m qual:Str)(st:Stmt)(ps:List Str):Prop where
 ex:∃(f:Addr) (fd:FuncData),Fun K m qual st f fd/\Meth K C m f/\Binds K fd ps []
theorem Dm.mt{P:Program}{w:World}{K:W.Frag}{mg:Str->Option Value}{base:Heap}{C:Addr}{m qual:Str}{st:Stmt}{N ps:List Str}{k:Nat}{sp:Sp}(d:Dm K C m qual st ps)(S:FnScope N ps (defScope st))(len:∀ vs H Q E,sp vs H Q E->vs.length=ps.length)
 (hb:∀(f:Addr) (cdv:Value) (A:Around) (outer:List Env) (s:Shared) (H:Hp) (vs:List V) (Q:VK) (E:XK),Room k (A.deeper (envOfC qual (defScope st) s.heap.objs.size f cdv))->sp vs H Q E ->
  ∃ t,Bx (PSs (cxOf CX0 P w K mg base N qual (defScope st) f cdv A outer s H E).nox (defBody st) t)/\t { nx:=fun _ H'=>Q .non H',rt:=Q } (start N vs) H):Mt P w K mg base C m (k+1) ps sp:=by
 obtain⟨f,fd,F,hm,hb'⟩:=d.ex;exact⟨f,fd,F.ok S len (fun cdv A outer s H vs Q E hr h=>let⟨t,h1,h2⟩:=hb f cdv A outer s H vs Q E hr h;⟨t,h1.out,h2⟩),hm,hb'⟩
structure Dk(K:W.Frag)(mg:Str->Option Value)(C:Addr)(x qual:Str)(st:Stmt)(ps:List Str):Prop where
 ex:∃(f:Addr) (fd:FuncData),Fun K "__init__" qual st f fd/\Mk K C f/\mg x=some (.ref C)/\Binds K fd ps []
theorem Dk.mk'{P:Program}{w:World}{K:W.Frag}{mg:Str->Option Value}{base:Heap}{C:Addr}{x qual:Str}{st:Stmt}{N ps:List Str}{k:Nat}{sp:Sp}(d:Dk K mg C x qual st ps)(S:FnScope N ps (defScope st))(len:∀ vs H Q E,sp vs H Q E->vs.length=ps.length)
 (hb:∀(f:Addr) (cdv:Value) (A:Around) (outer:List Env) (s:Shared) (H:Hp) (vs:List V) (Q:VK) (E:XK),Room k (A.deeper (envOfC qual (defScope st) s.heap.objs.size f cdv))->sp vs H Q E ->
  ∃ t,Bx (PSs (cxOf CX0 P w K mg base N qual (defScope st) f cdv A outer s H E).nox (defBody st) t)/\t { nx:=fun _ H'=>Q .non H',rt:=Q } (start N vs) H):Mkr P w K mg base C x (k+1) ps sp:=by
 obtain⟨f,fd,F,hm,hg,hb'⟩:=d.ex;exact⟨f,fd,F.ok S len (fun cdv A outer s H vs Q E hr h=>let⟨t,h1,h2⟩:=hb f cdv A outer s H vs Q E hr h;⟨t,h1.out,h2⟩),hm,hg,hb'⟩
noncomputable abbrev MRow:=List (Int×Int)
noncomputable def kvs(r:MRow):List (Key×V):=r.map fun p=>((Sum.inl p.1:Key),V.int p.2)
noncomputable def rLook(r:MRow)(k:Int):Option Int:=(r.find? fun p=>decide (p.1=k)).map (·.2)
noncomputable def rPut(r:MRow)(k v:Int):MRow:=if(rLook r k).isSome=true then r.map (fun p=>if p.1=k then(p.1,v)else p)else r++[(k,v)]
noncomputable def rCut(r:MRow)(k:Int):MRow:=r.filter fun p=>decide (p.1≠k)
noncomputable def oV:Option Int->V
 | none=>.non
 | some i=>.int i
noncomputable abbrev ROk(r:MRow):Prop:=(r.map (·.1)).Nodup
theorem rLook_pos{p:Int×Int}{r:MRow}{k:Int}(e:p.1=k):rLook (p::r) k=some p.2:=by simp[rLook,List.find?_cons,e]
theorem rLook_neg{p:Int×Int}{r:MRow}{k:Int}(e:¬ p.1=k):rLook (p::r) k=rLook r k:=by simp[rLook,List.find?_cons,e]
theorem inlE{a b:Int}:((Sum.inl a:Key)=Sum.inl b) ↔ a=b:=⟨Sum.inl.inj,congrArg _⟩
theorem valV_kvs(k:Int):∀ r:MRow,valV (kvs r) (Sum.inl k:Key)=(rLook r k).map V.int
 | []=>rfl
 | p::r=>by
   show valV (((Sum.inl p.1:Key),V.int p.2)::kvs r) (Sum.inl k:Key)=_;by_cases e:p.1=k
   · rw[rLook_pos e,valV_pos (inlE.mpr e)];rfl
   rw[rLook_neg e,valV_neg (fun z=>e (inlE.mp z)),valV_kvs k r]
theorem kvs_any(r:MRow)(k:Int):((kvs r).any fun kv=>decide (kv.1=(Sum.inl k:Key)))=(rLook r k).isSome:=by
 rw[valV_any,valV_kvs];cases rLook r k <;> rfl
theorem putK_kvs(r:MRow)(k v:Int):putK (kvs r) (Sum.inl k:Key) (V.int v)=kvs (rPut r k v):=by
 unfold putK rPut;rw[kvs_any];split
 · unfold kvs
   rw[List.map_map,List.map_map];refine List.map_congr_left fun p _=>?_;show(if(Sum.inl p.1:Key)=Sum.inl k then _ else _)=_;by_cases e:p.1=k
   · rw[if_pos (inlE.mpr e)]
     show _=((Sum.inl (if p.1=k then(p.1,v)else p).1:Key),V.int (if p.1=k then(p.1,v)else p).2);rw[if_pos e]
   rw[if_neg (fun z=>e (inlE.mp z))];show _=((Sum.inl (if p.1=k then(p.1,v)else p).1:Key),V.int (if p.1=k then(p.1,v)else p).2);rw[if_neg e]
 unfold kvs;rw[List.map_append]
 rfl
theorem dropK_kvs(k:Int):∀ r:MRow,dropK (kvs r) (Sum.inl k:Key)=kvs (rCut r k)
 | []=>rfl
 | p::r=>by
   show dropK (((Sum.inl p.1:Key),V.int p.2)::kvs r) (Sum.inl k:Key)=_;unfold rCut;rw[List.filter_cons];by_cases e:p.1=k
   · rw[dropK_pos (inlE.mpr e),if_neg (by simp[e]),dropK_kvs k r];rfl
   rw[dropK_neg (fun z=>e (inlE.mp z)),if_pos (by simp[e]),dropK_kvs k r];rfl
theorem kvs_len(r:MRow):(kvs r).length=r.length:=List.length_map ..
theorem rLook_none_iff(k:Int):∀{r:MRow},rLook r k=none ↔ ¬ k∈r.map (·.1)
 | []=>by simp[rLook]
 | p::r=>by
   rw[List.map_cons,List.mem_cons];by_cases e:p.1=k
   · rw[rLook_pos e];simp[e]
   rw[rLook_neg e,rLook_none_iff k]
   constructor
   · intro h z
     rcases z with z | z
     · exact e z.symm
     exact h z
   intro h z;exact h (.inr z)
theorem keys_put_old{r:MRow}{k v:Int}(h:(rLook r k).isSome=true):(rPut r k v).map (·.1)=r.map (·.1):=by
 unfold rPut;rw[if_pos h,List.map_map];refine List.map_congr_left fun p _=>?_;show(if p.1=k then(p.1,v)else p).1=p.1;split <;> rfl
theorem rPut_new{r:MRow}{k v:Int}(h:rLook r k=none):rPut r k v=r++[(k,v)]:=by
 unfold rPut;rw[h]
 rfl
theorem rPut_ok{r:MRow}{k v:Int}(h:ROk r):ROk (rPut r k v):=by
 cases e:rLook r k with
 | some x=>rw[ROk,keys_put_old (by rw[e];rfl)];exact h
 | none=>
   rw[ROk,rPut_new e,List.map_append];exact nd_snoc h ((rLook_none_iff k).mp e)
theorem rPut_len{r:MRow}{k v:Int}:(rPut r k v).length=r.length+(if rLook r k=none then 1 else 0):=by
 cases e:rLook r k with
 | some x=>
   unfold rPut;rw[e];simp
 | none=>rw[rPut_new e];simp
theorem rCut_ok{r:MRow}{k:Int}(h:ROk r):ROk (rCut r k):=by
 have:(rCut r k).map (·.1)=(r.map (·.1)).filter fun a=>decide (a≠k):=by
  unfold rCut;rw[List.filter_map]
  rfl
 rw[ROk,this];exact List.Pairwise.filter _ h
theorem rCut_no:∀{r:MRow}{k:Int},¬ k∈r.map (·.1)->rCut r k=r
 | [],_,_=>rfl
 | p::r,k,h=>by
   rw[List.map_cons,List.mem_cons]at h;unfold rCut;rw[List.filter_cons,if_pos (by simp only[decide_eq_true_eq];exact fun z=>h (.inl z.symm))]
   exact congrArg _ (rCut_no fun z=>h (.inr z))
noncomputable def Fr(F:Addr->Prop)(H H':Hp):Prop:=∀ b o,¬ F b->H b=some o->H' b=some o
theorem Fr.refl(F:Addr->Prop)(H:Hp):Fr F H H:=fun _ _ _ h=>h
theorem Fr.trans{F:Addr->Prop}{H H1 H2:Hp}(a:Fr F H H1)(b:Fr F H1 H2):Fr F H H2:=fun c o n h=>b c o n (a c o n h)
theorem Fr.same{F:Addr->Prop}{H H':Hp}(h:Same H H'):Fr F H H':=fun b o _ e=>h b o e
noncomputable def PrV(H:Hp)(v:V)(p:Int×Int):Prop:=∃ a,v=.ref a/\H a=some (.tup [.int p.1,.int p.2])
noncomputable abbrev Prs(H:Hp)(xs:List V)(r:MRow):Prop:=Paired (PrV H) xs r
theorem PrV.keep{H H':Hp}{v:V}{p:Int×Int}(h:PrV H v p)(k:∀ a xs,H a=some (.tup xs)->H' a=some (.tup xs)):PrV H' v p:=by
 obtain⟨a,e,h⟩:=h;exact⟨a,e,k a _ h⟩
theorem Prs.keep{H H':Hp}{xs:List V}{r:MRow}(h:Prs H xs r)(k:∀ a xs,H a=some (.tup xs)->H' a=some (.tup xs)):Prs H' xs r:=Paired.mapP h fun _ _ z=>z.keep k
section
variable{D:Ends}{σ:L2.St}{H:Hp}{Q:VK}{v:V}{K:W.Frag}{C:Addr}{E:XK}
theorem wFld{ta:TE}{f:Str}(h:ta σ H fun x H1=>∃ a C dx fs v,x=.ref a/\H1 a=some (.ins C dx fs)/\Cls K C/\NoAttr K C f/\fs.lookup f=some v/\Q v H1):tFld K ta f σ H Q:=h
theorem wSFld{ta tv:TE}{f:Str}(h:tv σ H fun y H1=>ta σ H1 fun x H2=>∃ a C dx fs,x=.ref a/\H2 a=some (.ins C dx fs)/\Cls K C/\NoAttr K C f/\fs.length < 1000/\D.nx σ (upd H2 a (.ins C dx (putF f y fs)))):sFld K ta tv f D σ H:=h
theorem wMeth{m:Str}{sp:Sp}{ta:TE}{t:TA}(h:ta σ H fun x H1=>∃ a dx fs,x=.ref a/\H1 a=some (.ins C dx fs)/\fs.lookup m=none/\t σ H1 fun vs H2=>sp (x::(vs++[])) H2 Q E):tMeth C m sp [] E ta t σ H Q:=h
theorem wMake{sp:Sp}{t:TA}(h:t σ H fun vs H1=>∀ x dx,H1 x=none->H1 dx=none->dx≠x->sp (.ref x::(vs++[])) (upd (upd H1 dx (.own x)) x (.ins C dx [])) (fun v H2=>v=.non/\Q (.ref x) H2) E):tMake C sp [] E t σ H Q:=h
end
noncomputable def CN(Pv:Nat->L2.St->Hp->Prop)(n i:Nat)(D:Addr)(σ:L2.St)(y:V)(H4:Hp):Prop:=∃ ys,H4 D=some (.lst ys)/\ys.length < sizeLine /\ ∃ m',m' < n - i/\(m'=n - (i+1)/\i+1<=n/\Pv (i+1) σ (upd H4 D (.lst (ys++[y]))))
noncomputable def CO(Pv:Nat->L2.St->Hp->Prop)(n i:Nat)(σ:L2.St)(H3:Hp):Prop:=∃ m',m' < n - i/\(m'=n - (i+1)/\i+1<=n/\Pv (i+1) σ H3)
theorem CN.mk{Pv:Nat->L2.St->Hp->Prop}{n i:Nat}{D:Addr}{σ:L2.St}{y:V}{H4:Hp}{ys:List V}(hi:i < n)(hD:H4 D=some (.lst ys))(hl:ys.length < sizeLine)(h:Pv (i+1) σ (upd H4 D (.lst (ys++[y])))):CN Pv n i D σ y H4:=
 ⟨ys,hD,hl,n - (i+1),by omega,rfl,hi,h⟩
theorem CO.mk{Pv:Nat->L2.St->Hp->Prop}{n i:Nat}{σ:L2.St}{H3:Hp}(hi:i < n)(h:Pv (i+1) σ H3):CO Pv n i σ H3:=⟨n - (i+1),by omega,rfl,hi,h⟩
section
variable{K:W.Frag}{n:Nat}{lo:Int}{a D:Addr}{xs:List V}{σ0:L2.St}{H1:Hp}{Q:VK}{tt:TT}{te:TE}
theorem comp_range{Qf:Hp->Prop}(Pv:Nat->L2.St->Hp->Prop)(h0:Pv 0 σ0 H1)
 (step:∀ i σ' H',i < n->Pv i σ' H'->tt (σ'.set 0 (some (.int (lo+i)))) H' fun ok H3=>if ok=true then te (σ'.set 0 (some (.int (lo+i)))) H3 (fun y H4=>CN Pv n i D (σ'.set 0 (some (.int (lo+i)))) y H4)else CO Pv n i (σ'.set 0 (some (.int (lo+i)))) H3)
 (fin:∀ σ H,Pv n σ H->Qf H) :
 ∃ W:Nat->Nat->L2.St->Hp->Prop,(∃ m,W 0 m σ0 H1) /\ ∀ i m σ' H',W i m σ' H'->((Itr lo n).stop i H'/\Qf H')∨((Itr lo n).go i H' /\ ∀ x H2,(Itr lo n).yld i H' x H2->tt (σ'.set 0 (some x)) H2 fun ok H3=>
   if ok=true then te (σ'.set 0 (some x)) H3 fun y H4=>∃ ys,H4 D=some (.lst ys)/\ys.length < sizeLine /\ ∃ m',m' < m/\W (i+1) m' (σ'.set 0 (some x)) (upd H4 D (.lst (ys++[y])))
   else ∃ m',m' < m/\W (i+1) m' (σ'.set 0 (some x)) H3):=by
 refine⟨fun i m σ H=>m=n - i/\i<=n/\Pv i σ H,⟨n,by omega,Nat.zero_le _,h0⟩,?_⟩
 rintro i m σ' H' ⟨rfl,hi,p⟩;by_cases hlt:i < n
 · refine .inr ⟨hlt,fun x H2 y=>?_⟩
   obtain⟨rfl,rfl⟩:=y;exact step i σ' _ hlt p
 have e:i=n:=by omega
 subst e;exact .inl ⟨Nat.le_refl _,fin _ _ p⟩
theorem comp_list{Qf:Hp->Prop}(Pv:Nat->L2.St->Hp->Prop)(h0:Pv 0 σ0 H1)(hl:∀ i σ H,i<=xs.length->Pv i σ H->SqL K H a xs)
 (step:∀ i x σ' H',xs[i]?=some x->i < xs.length->Pv i σ' H'->tt (σ'.set 0 (some x)) H' fun ok H3=>if ok=true then te (σ'.set 0 (some x)) H3 (fun y H4=>CN Pv xs.length i D (σ'.set 0 (some x)) y H4)else CO Pv xs.length i (σ'.set 0 (some x)) H3)
 (fin:∀ σ H,Pv xs.length σ H->Qf H) :
 ∃ W:Nat->Nat->L2.St->Hp->Prop,(∃ m,W 0 m σ0 H1) /\ ∀ i m σ' H',W i m σ' H'->((Itl K a).stop i H'/\Qf H')∨((Itl K a).go i H' /\ ∀ x H2,(Itl K a).yld i H' x H2->tt (σ'.set 0 (some x)) H2 fun ok H3=>
   if ok=true then te (σ'.set 0 (some x)) H3 fun y H4=>∃ ys,H4 D=some (.lst ys)/\ys.length < sizeLine /\ ∃ m',m' < m/\W (i+1) m' (σ'.set 0 (some x)) (upd H4 D (.lst (ys++[y])))
   else ∃ m',m' < m/\W (i+1) m' (σ'.set 0 (some x)) H3):=by
 refine⟨fun i m σ H=>m=xs.length - i/\i<=xs.length/\Pv i σ H,⟨xs.length,by omega,Nat.zero_le _,h0⟩,?_⟩
 rintro i m σ' H' ⟨rfl,hi,p⟩;have q:=hl i σ' H' hi p;by_cases hlt:i < xs.length
 · refine .inr ⟨⟨xs,xs[i],q,by simp[hlt]⟩,fun x H2 y=>?_⟩
   obtain⟨rfl,y⟩:=y;exact step i x σ' _ (y xs q) hlt p
 have e:i=xs.length:=by omega
 subst e;exact .inl ⟨⟨xs,q,Nat.le_refl _⟩,fin _ _ p⟩
theorem comp_listU{Qf:Hp->Prop}(Pv:Nat->L2.St->Hp->Prop)(h0:Pv 0 σ0 H1)(hl:∀ i σ H,i<=xs.length->Pv i σ H->SqL K H a xs)
 (step:∀ i x σ' H',xs[i]?=some x->i < xs.length->Pv i σ' H'->te (σ'.set 0 (some x)) H' (fun y H4=>CN Pv xs.length i D (σ'.set 0 (some x)) y H4))
 (fin:∀ σ H,Pv xs.length σ H->Qf H) :
 ∃ W:Nat->Nat->L2.St->Hp->Prop,(∃ m,W 0 m σ0 H1) /\ ∀ i m σ' H',W i m σ' H'->((Itl K a).stop i H'/\Qf H')∨((Itl K a).go i H' /\ ∀ x H2,(Itl K a).yld i H' x H2 ->
   if true=true then te (σ'.set 0 (some x)) H2 fun y H4=>∃ ys,H4 D=some (.lst ys)/\ys.length < sizeLine /\ ∃ m',m' < m/\W (i+1) m' (σ'.set 0 (some x)) (upd H4 D (.lst (ys++[y])))
   else ∃ m',m' < m/\W (i+1) m' (σ'.set 0 (some x)) H2):=
 comp_list (tt:=fun _ H Q=>Q true H) Pv h0 hl (fun i x σ' H' e hi p=>iteT (step i x σ' H' e hi p)) fin
end
section
variable{C:Addr}{H H':Hp}{p:Addr}{f m:Int}{R:MRows}{t L:Addr}{ds:List Addr}
end
noncomputable def spWhole:Sp:=fun vs H Q _=>∃ n:Int,vs=[.int n]/\Q (.bl true) H
theorem oV_getD{r:MRow}{k:Int}:(valV (kvs r) (Sum.inl k:Key)).getD V.non=oV (rLook r k):=by
 rw[valV_kvs];cases rLook r k <;> rfl
end SW
namespace SW.B
open PySem PySem.Spec PyProof.Rows L2 SW
theorem tcmpI{X:Cx}{a b:Expr}{ta tb:TE}{pos:Pos}{op:CmpOp}{r:R2}(ho:OpR X (compareOp op) r)(ha:Bx (PE X a ta))(hb:Bx (PE X b tb))(hm:behindInMarks op b=false:=by first | rfl | with_unfolding_all rfl):Bx (PT X (.Compare a [op] [b] pos) (tTest (tOp r ta tb))):=⟨pt_cmpR ho ha.out hb.out hm⟩
end SW.B
namespace SW
open PySem PySem.Spec PyProof.Rows L2
end SW
namespace SW
open PySem PySem.Spec PyProof.Rows L2
section
variable{D:Ends}{σ:L2.St}{H:Hp}{Q:VK}{K:W.Frag}
theorem wDGet1{td ty:TE}(h:td σ H fun x H1=>∃ a,x=.ref a/\IsD H1 a/\ty σ H1 fun y H2=>∃ o,DGet H2 a y o/\Q (o.getD .non) H2):tDGet1 td ty σ H Q:=h
theorem wDPop2{td ty tx:TE}(h:td σ H fun x H1=>∃ a,x=.ref a/\IsD H1 a/\ty σ H1 fun y H2=>tx σ H2 fun z H3=>∃ kvs k,H3 a=some (.dK kvs)/\y=kV k/\(∀ v,valV kvs k=some v->Q v (upd H3 a (.dK (dropK kvs k))))/\(valV kvs k=none->Q z H3)):tDPop2 td ty tx σ H Q:=h
theorem wItems{td:TE}(h:td σ H fun x H1=>∃ a kvs,x=.ref a/\H1 a=some (.dK kvs) /\ ∀ v,H1 v=none->Q (.ref v) (upd H1 v (ViewO v a))):tItems td σ H Q:=h
theorem wDPut{td ty tv:TE}(h:tv σ H fun v H1=>td σ H1 fun x H2=>ty σ H2 fun y H3=>∃ a H4,x=.ref a/\DPut H3 a y v H4/\D.nx σ H4):sDPut td ty tv D σ H:=h
theorem wCompSet{i:Nat}{t:TE}(h:t σ H fun v H1=>D.nx (σ.set i (some v)) H1):tCompSet i t D σ H:=h
theorem wSl{r:V->Option Int->Option Int->Hp->VK->Prop}{te:TE}{tl th:TO}(h:te σ H fun x H1=>tl σ H1 fun l H2=>th σ H2 fun u H3=>r x l u H3 Q):tSl r te tl th σ H Q:=h
theorem wNoPart{Q:Option Int->Hp->Prop}(h:Q none H):tNoPart σ H Q:=h
theorem wPart{t:TE}{Q:Option Int->Hp->Prop}(h:t σ H fun x H1=>∃ i,x=.int i/\Q (some i) H1):tPart t σ H Q:=h
end
section
variable{X:Cx}{pins:List (Addr×Obj)}{σ:L2.St}{H:Hp}{s:Shared}{h':Heap}
theorem Inv.turnedNew{t':Nat}{fp:List Addr}{a:Addr}{o:HO}(I:Inv X pins σ H s)(k:∀ b u,b∉fp->s.heap.get? b=some u->h'.get? b=some u)(hf:∀ b∈fp,FpOk X pins H b)(hp:s.heap.objs.size<=a)
 (new:ObjOk X.prog X.w (upd H a o) h' a o):Inv X pins σ (upd H a o) { s with heap:=h',toks:=t' }:=by
 have lt:∀ b u,H b=some u->b < s.heap.objs.size:=fun b u e=>I.hok.lt e;have old:∀ b u,H b=some u->upd H a o b=some u:=fun b u e=>by rw[upd_ne (Nat.ne_of_lt (Nat.lt_of_lt_of_le (lt b u e) hp))];exact e
 have nfp:∀ b u,H b=some u->b∉fp:=fun b u e z=>by
  have:=(hf b z).1;rw[e]at this;cases this
 refine I.call (g':=s.gens) (d':=s.drawn) (t':=t') (ch:=fp) ⟨fun b u q _ _ hx=>k b u hx q,fun b u q _ _ hx=>⟨u.slots,k b u hx q⟩,fun b u q n _=>?_,fun b u q hx=>⟨u,k b u hx q⟩,fun b xs q=>old b _ q,fun b u v q=>old b _ q,fun b ps q=>⟨#[],by rw[old b _ q];simp⟩⟩ (fun b u e=>?_) I.bare
  fun b hb=>⟨(hf b hb).2.2.2.1,(hf b hb).2.1,(hf b hb).2.2.2.2.1,(hf b hb).2.2.2.2.2⟩
 · rw[upd_ne (Nat.ne_of_lt (Nat.lt_of_lt_of_le (Heap.lt_size q) hp))];exact n
 by_cases hb:b=a
 · subst hb
   rw[upd_same]at e;cases e;exact new
 rw[upd_ne hb]at e;refine(I.hok b u e).stay (fun c v hc q=>k c v ?_ q) (fun c q=>old c _ q) fun c xs q=>old c _ q;rcases hc with z | z
 · rw[z];exact nfp b u e
 exact nfp c _ z
theorem Inv.turnedL{t':Nat}{fp:List Addr}(I:Inv X pins σ H s)(k:∀ b u,b∉fp->s.heap.get? b=some u->h'.get? b=some u)(hf:∀ b∈fp,FpOk X pins H b):Inv X pins σ H { s with heap:=h',toks:=t' }:=by
 have nfp:∀ b u,H b=some u->b∉fp:=fun b u e z=>by
  have:=(hf b z).1;rw[e]at this;cases this
 refine I.call (g':=s.gens) (d':=s.drawn) (t':=t') (ch:=fp) ⟨fun b u q _ _ hx=>k b u hx q,fun b u q _ _ hx=>⟨u.slots,k b u hx q⟩,fun b u q n _=>n,fun b u q hx=>⟨u,k b u hx q⟩,fun b xs q=>q,fun b u v q=>q,fun b ps q=>⟨#[],by rw[q];simp⟩⟩ (fun b u e=>?_) I.bare
  fun b hb=>⟨(hf b hb).2.2.2.1,(hf b hb).2.1,(hf b hb).2.2.2.2.1,(hf b hb).2.2.2.2.2⟩
 refine(I.hok b u e).stay (fun c v hc q=>k c v ?_ q) (fun c q=>q) fun c xs q=>q;rcases hc with z | z
 · rw[z];exact nfp b u e
 exact nfp c _ z
end
section
variable{X:Cx}{elts:List Expr}{k:Nat}{tp:Pos}
end
namespace B
end B
section
variable{prog:Program}{w:World}{A:Around}{E:Value->Shared->Prop}{s:Shared}
set_option maxRecDepth 100000 in
end
section
variable{X:Cx}{o e:Expr}{to te:TE}{pos p2:Pos}{hi:Option Expr}{th:TO}
end
namespace B
end B
theorem Prs.len{H:Hp}{xs:List V}{r:MRow}(h:Prs H xs r):xs.length=r.length:=Paired.length h
theorem Prs.dat{K:W.Frag}{H:Hp}:∀{xs:List V}{r:MRow},Prs H xs r->DatVs K H xs (r.map fun p=>.tuple [.int p.1,.int p.2])
 | _,_,.nil=>.nil
 | _,_,.cons ⟨a,e,h⟩ t=>by
   subst e;exact .cons (.tup (SqT.of h) (.cons (.int _) (.cons (.int _) .nil))) (Prs.dat t)
theorem call_lenK(K:W.Frag){X:Cx}(h:X.K=K:=by rfl):CallR X (.builtin "len") (fun xs H Q=>∃ p ys,xs=[.ref p]/\(SqL K H p ys∨SqT K H p ys)/\Q (.int ys.length) H):=by subst h;exact call_len_seq
namespace B
theorem fldK(K:W.Frag){X:Cx}{e:Expr}{ta:TE}{f:Str}{pos:Pos}(he:Bx (PE X e ta))(h:X.K=K:=by rfl)(hb:attributeBase e f X.env (eval e X.env)=eval e X.env:=by rfl):Bx (PE X (.Attribute e f pos) (tFld K ta f)):=by subst h;exact⟨pe_fld he.out hb⟩
end B
end SW
namespace SW
open PySem PySem.Spec PyProof.Rows L2
theorem b_set:bootBuiltins "set"=some (.type "set"):=by decide +kernel
noncomputable def nDist(ns:List Int):Nat:=(firstMet (fun i=>ns.getD i 0) ns.length).length
section
variable{X:Cx}
theorem call_setL:CallR X (.type "set") (fun xs H Q=>∃ l ns,xs=[.ref l]/\SqL X.K H l (List.map V.int ns)/\List.length ns+1 < 4096/\X.calm=true /\ ∀ a S,H a=none->Q (.ref a) (upd H a (.set S (nDist ns)))):=by
 intro pins s σ H xs us Q I r h;obtain⟨l,ns,rfl,hl,hn,hc,q⟩:=h;obtain⟨u,rfl,rx⟩:=vals1 r;cases rx;obtain⟨its,rv,pl,_⟩:=I.list hl;have hi:IntsAre its ns:=intsAre_of rv;have le:=rv.length;rw[List.length_map]at le;refine call_set_list (items:=its.toArray) (I.ok.hd hc) pl.isList hi (by rw[List.size_toArray,← le];exact hn) fun h' tk hS hk=>?_
 have e:(firstMet (fun i=>ns.getD i 0) its.toArray.size).length=nDist ns:=by rw[List.size_toArray,← le];rfl
 rw[e]at hS;exact⟨.ref s.heap.objs.size,_,I.laid (t':=tk) (fun b u g=>hk b u (Heap.lt_size g) g) (Nat.le_refl _) (show ObjOk X.prog X.w _ h' _ (.set _ _)from hS),rfl,q _ _ (I.hok.fresh (Nat.le_refl _))⟩
theorem call_lenS:CallR X (.builtin "len") (fun xs H Q=>∃ a S n,xs=[.ref a]/\H a=some (.set S n)/\Q (.int (n:Nat)) H):=by
 intro pins s σ H xs us Q I r h;obtain⟨a,S,n,rfl,ha,q⟩:=h;obtain⟨u,rfl,rx⟩:=vals1 r;cases rx;obtain⟨o,es,ep,t,ho,hex,hd,_,_,hb,hf,hn⟩:=(show ObjOk X.prog X.w H s.heap a (.set S n)from I.hok a _ ha);have:(scanBound:Nat)=4096:=rfl;exact call_len_set ho hex hd hf (by omega) ⟨.int n,H,I.tok _,⟨_,by rw[hn]⟩,q⟩
end
end SW
namespace SW
open PySem PySem.Spec PyProof.Rows L2
theorem rLook_put{r:MRow}{k v j:Int}:rLook (rPut r k v) j=if j=k then some v else rLook r j:=by
 have h:=valV_put (kvs r) (Sum.inl k:Key) (Sum.inl j) (V.int v);rw[putK_kvs,valV_kvs,valV_kvs]at h;by_cases e:j=k
 · rw[if_pos (inlE.mpr e)]at h
   rw[if_pos e];cases q:rLook (rPut r k v) j with
   | none=>rw[q]at h;cases h
   | some z=>rw[q]at h;injection h with h;injection h with h;rw[h]
 rw[if_neg (fun z=>e (inlE.mp z))]at h;rw[if_neg e];cases q:rLook (rPut r k v) j with
 | none=>rw[q]at h;cases q2:rLook r j with
   | none=>rfl
   | some z=>rw[q2]at h;cases h
 | some z=>rw[q]at h;cases q2:rLook r j with
   | none=>rw[q2]at h;cases h
   | some y=>rw[q2]at h;injection h with h;injection h with h;rw[h]
theorem rLook_cut{k j:Int}:∀{r:MRow},rLook (rCut r k) j=if j=k then none else rLook r j
 | []=>by unfold rCut;simp[rLook]
 | p::r=>by
   have ih:=rLook_cut (k:=k) (j:=j) (r:=r);by_cases e:p.1=k
   · have e2:rCut (p::r) k=rCut r k:=by
      unfold rCut;rw[List.filter_cons,if_neg (by simp[e])]
     rw[e2,ih];by_cases ej:j=k
     · rw[if_pos ej,if_pos ej]
     rw[if_neg ej,if_neg ej,rLook_neg (fun z=>ej (by rw[← z,e]))]
   have e2:rCut (p::r) k=p::rCut r k:=by
    unfold rCut;rw[List.filter_cons,if_pos (by simp[e])]
   rw[e2];by_cases ep:p.1=j
   · rw[rLook_pos ep,rLook_pos ep,if_neg (fun z=>e (by rw[ep,z]))]
   rw[rLook_neg ep,rLook_neg ep,ih]
end SW
namespace SW
open PySem PySem.Spec PyProof.Rows L2
section
variable(t:Addr)(pc:Int)(el:V)(mv:Int)(n:Addr)(tc:Int)
end
section
variable{CS CT:Addr}{H H':Hp}{p:Addr}{f m:Int}{pc:Nat}{M:MT}{tc:Int}{t n:Addr}{v:V}{FN FE F G:Addr->Prop}
end
section
variable{CS CT:Addr}{H:Hp}{Q:VK}{E:XK}{p:Addr}{k y f m:Int}{pc:Nat}{M:MT}{tc:Int}{F:Addr->Prop}
end
end SW
namespace SW
open PySem PySem.Spec PyProof.Rows L2
section
variable{CS CT:Addr}{H H':Hp}{p:Addr}{f m:Int}{pc:Nat}{M:MT}{tc:Int}{t n:Addr}{v:V}{FN FE F G:Addr->Prop}
end
end SW
namespace SW
open PySem PySem.Spec PyProof.Rows L2
theorem wITup{K:W.Frag}{σ:L2.St}{H:Hp}{tl:TE}{R:It->Hp->Prop}(h:tl σ H fun x H1=>∃ a,x=.ref a/\(∃ xs,SqT K H1 a xs)/\R (Itt K a) H1):iTup K tl σ H R:=h
namespace B
end B
end SW
namespace SW
open PySem PySem.Spec PyProof.Rows L2
end SW
namespace SW
open PySem PySem.Spec PyProof.Rows L2
structure CompScopeN(X:Cx)(scope:Scope)(cl:List (Str×Addr))(os:List Str)(js:List Nat)(N':List Str):Prop where
 clos:closureFor scope X.env=pure cl
 kind:scope.kind=.function
 nocell:∀ y∈scope.names,y.2 ≠ .cell
 names:∀ y∈scope.names,y.2=.local->scope.names.lookup y.1=some .local
 sub:∀ p∈cl,X.env.cells.lookup p.1=some p.2
 has:∀ y,((relabel scope X.env).names.lookup y=some .cell∨(relabel scope X.env).names.lookup y=some .free) -> ∃ c,cl.lookup y=some c
 nm:N'=os++js.map fun j=>X.N.getD j Str.empty
 see:∀(i j:Nat),js[i]?=some j -> ∃ y,X.N[j]?=some y/\(X.env.kindOf y=some .cell∨X.env.kindOf y=some .free)/\((relabel scope X.env).names.lookup y=some .cell∨(relabel scope X.env).names.lookup y=some .free)
noncomputable def seenN(n:Nat)(σ:L2.St)(js:List Nat):L2.St:=List.replicate n none++js.map fun j=>σ.getD j none
section
variable{X:Cx}{scope:Scope}{cl:List (Str×Addr)}{os:List Str}{js:List Nat}{N':List Str}{pins:List (Addr×Obj)}{σ:L2.St}{H:Hp}{s:Shared}{fp:List Addr}
theorem CompScopeN.sub'(S:CompScopeN X scope cl os js N'){y:Str}{c:Addr}(h:cl.lookup y=some c):X.env.cells.lookup y=some c:=S.sub (y,c) (PySem.mem_of_lookup h)
theorem compN_ok(S:CompScopeN X scope cl os js N')(I:Inv X pins σ H s)(hf:∀ b∈fp,FpOk X pins H b)(ho:∀ b∈fp,b < s.heap.objs.size):(compCx X scope cl N' s H fp pins).Ok where
 mod:=I.ok.mod
 kind:=S.kind
 glob:=I.ok.glob
 blt:=I.ok.blt
 above:=Nat.le_refl _
 inj:=fun y z c h1 h2=>I.ok.inj y z c (S.sub' h1) (S.sub' h2)
 has:=fun y h=>S.has y h
 cab:=fun y c h=>absurd h Bool.false_ne_true
 hd:=I.ok.hd
 frames:=I.ok.frames
 stk:=.inl rfl
 exf:=fun b hb=>⟨Nat.ne_of_lt (ho b hb),fun y c h=>(hf b hb).2.2.2.2.1 y c (S.sub' h)⟩
 bs:=I.bs
 bsz:=Nat.le_trans I.ok.bsz I.sz
 noex:=fun b o e hb=>by
  rcases(hf b hb).2.2.2.1 with z | z
  · exact I.ok.noex b o e z
  exact absurd (Nat.lt_of_lt_of_le (Heap.lt_size (I.ok.bs b o e).1) z) (Nat.lt_irrefl _)
 exfs:=fun b hb z=>by
  rcases List.mem_cons.mp (I.stkSub b z)with e | e
  · exact(hf b hb).2.1 e
  exact(hf b hb).2.2.1 e
 funs:=I.stack
 frf:=I.stkFree
theorem compN_inv(S:CompScopeN X scope cl os js N')(I:Inv X pins σ H s)(hf:∀ b∈fp,FpOk X pins H b)(ho:∀ b∈fp,b < s.heap.objs.size){s4:Shared}{m:Str->Option Value}(hos:s4.os=s.os)(hg:s4.gens=s.gens)
 (hn:s4.heap.Ns s.heap.objs.size m) (hk:∀ b o,s.heap.get? b=some o->s4.heap.get? b=some o):Inv (compCx X scope cl N' s H fp pins) [] (seenN os.length σ js) H s4 where
 ok:=compN_ok S I hf ho
 os:=hos
 bare:=by rw[hg];exact I.bare
 base:=Un.kept hk
 loc:=by
  obtain⟨mX,_,hl⟩:=I.loc;refine⟨m,hn,fun i y v h1 h2 h3=>?_⟩;by_cases hio:i < os.length
  · unfold seenN at h2
    rw[List.getElem?_append_left (by rw[List.length_replicate];exact hio),List.getElem?_replicate_of_lt hio]at h2
    cases h2
  obtain⟨i',rfl⟩:∃ i',i=os.length+i':=⟨i - os.length,by omega⟩
  have h1':N'[os.length+i']?=some y:=h1;rw[S.nm,List.getElem?_append_right (by omega),Nat.add_sub_cancel_left,List.getElem?_map]at h1'
  unfold seenN at h2;rw[List.getElem?_append_right (by rw[List.length_replicate];omega),List.length_replicate,Nat.add_sub_cancel_left,List.getElem?_map]at h2
  revert h1' h2
  generalize i'=i;intro h2 h1';cases ej:js[i]? with
  | none=>rw[ej]at h2;cases h2
  | some j=>
    rw[ej]at h1' h2;obtain⟨z,hz,k1,k2⟩:=S.see i j ej;have ey:z=y:=by
     have:X.N.getD j Str.empty=y:=Option.some.inj h1';rw[List.getD_eq_getElem?_getD,hz]at this;exact this
    subst ey;have ev:σ[j]?=some (some v):=by
     have q:σ.getD j none=some v:=Option.some.inj h2;rw[List.getD_eq_getElem?_getD]at q;cases e:σ[j]? with
     | none=>rw[e]at q;cases q
     | some w'=>rw[e]at q;exact congrArg some q
    have kx:X.env.scope.names.lookup z=some .cell∨X.env.scope.names.lookup z=some .free:=k1;obtain⟨u,r,l⟩:=hl j z v hz ev (.inr kx);refine⟨u,r,.inr ⟨k2,?_⟩⟩;obtain⟨c,hc⟩:=S.has z k2;rcases l with ⟨kl,_⟩ | ⟨_,c',e',cell⟩
    · rcases k1 with k1 | k1 <;> rw[k1]at kl <;> cases kl
    have:c'=c:=Option.some.inj (e'.symm.trans (S.sub' hc));subst this;obtain⟨o,q1,q2⟩:=cell;exact⟨c',hc,o,hk _ _ q1,q2⟩
 cell:=fun y c h=>by
  obtain⟨v,o,q1,q2⟩:=I.cell y c (S.sub' h);exact⟨v,o,hk _ _ q1,q2⟩
 free:=I.hok.fresh (Nat.le_refl _)
 freeC:=fun y c h=>I.freeC y c (S.sub' h)
 pin:=fun p hp=>by
  have hp':p∈X.pn++pins:=by
   have q:p∈(X.pn++pins)++[]:=hp;rw[List.append_nil]at q;exact q
  obtain⟨e,n,ne,nf,d⟩:=I.pin p hp';refine⟨hk _ _ e,n,Nat.ne_of_lt (Heap.lt_size e),fun z=>?_,d⟩;rcases List.mem_cons.mp (I.stkSub p.1 z)with q | q
  · exact ne q
  exact nf q
 hok:=I.hok.kept hk
 len:=by
  show(seenN os.length σ js).length=N'.length;rw[S.nm];unfold seenN;simp
end
noncomputable def tCompN(n:Nat)(js:List Nat)(wi:TI)(gt:TG)(tt:TT)(te:TE):TE:=fun σ H Q=>wi σ H fun J H1=>∀ D,H1 D=none -> ∃ W:Nat->Nat->L2.St->Hp->Prop,(∃ m,W 0 m (seenN n σ js) (upd H1 D (.lst []))) /\
 ∀ i m σ' H',W i m σ' H'->(J.stop i H'/\Q (.ref D) H')∨(J.go i H' /\ ∀ x H2,J.yld i H' x H2->gt x σ' H2 fun σ2 H2'=>tt σ2 H2' fun ok H3=>
   if ok=true then te σ2 H3 fun y H4=>∃ ys,H4 D=some (.lst ys)/\ys.length < sizeLine /\ ∃ m',m' < m/\W (i+1) m' σ2 (upd H4 D (.lst (ys++[y])))
   else ∃ m',m' < m/\W (i+1) m' σ2 H3)
section
variable{X:Cx}{scope:Scope}{cl:List (Str×Addr)}{os:List Str}{js:List Nat}{N':List Str}{elt iter:Expr}{ifs:List Expr}{tgt:Expr}{pos:Pos}{wi:TI}{gt:TG}{tt:TT}{te:TE}
theorem compN_core{RR:Value->Addr->Result->Shared->Prop}{pins:List (Addr×Obj)}{σ:L2.St}{H2:Hp}{s2:Shared}{Q:VK}{it:Addr}{fp:List Addr}{tn:Nat->Heap->Prop}{J:It}(S:CompScopeN X scope cl os js N')(hc:X.calm=true)(hg:∀ s H fp pins,PG (compCx X scope cl N' s H fp pins) tgt gt)
 (ht:∀ s H fp pins,PTs (compCx X scope cl N' s H fp pins) ifs tt) (he:∀ s H fp pins,PE (compCx X scope cl N' s H fp pins) elt te)
 (I2:Inv X pins σ H2 s2) (T:Turn X.prog X.w X.K tgt J fp it tn) (st2:tn 0 s2.heap) (f2:∀ b∈fp,FpOk X pins H2 b)
 (k:∀ D,H2 D=none -> ∃ W:Nat->Nat->L2.St->Hp->Prop,(∃ m,W 0 m (seenN os.length σ js) (upd H2 D (.lst []))) /\
  ∀ i m σ' H',W i m σ' H'->(J.stop i H'/\Q (.ref D) H')∨(J.go i H' /\ ∀ x H2,J.yld i H' x H2->gt x σ' H2 fun σ2 H2'=>tt σ2 H2' fun ok H3=>
    if ok=true then te σ2 H3 fun y H4=>∃ ys,H4 D=some (.lst ys)/\ys.length < sizeLine /\ ∃ m',m' < m/\W (i+1) m' σ2 (upd H4 D (.lst (ys++[y])))
    else ∃ m',m' < m/\W (i+1) m' σ2 H3))
 (fin:∀(D C:Addr) (s6:Shared) (H6:Hp) (m:Str->Option Value),s6.heap.Ns C m->(∀ h',Heap.SameBut C s6.heap h'->Inv X pins σ H6 { s6 with heap:=h' })->H6 C=none->FpOk X pins H6 C->Q (.ref D) H6->RR (.ref D) C (.ok .next) s6) :
 wpAny (model X.prog X.w) X.A (newList []) (fun acc s₃=>wpAny (model X.prog X.w) X.A (newFunctionEnv scope X.env.globals cl [] X.env.qual none .none (some X.env)) (fun cenv s₄=>
  codeAny (model X.prog X.w) X.A (.compStart (.ListComp elt [⟨tgt,iter,ifs,0⟩] scope pos) 0 (.ref it) acc { cenv with scope:=relabel scope X.env }) (RR acc cenv.locals) s₄) X.xe s₃) X.xe s2:=by
 have hDn:H2 s2.heap.objs.size=none:=I2.hok.fresh (Nat.le_refl _);obtain⟨W,⟨m0,w0⟩,turn⟩:=k s2.heap.objs.size hDn;refine wpAny_newObj_type (wpAny_newFunctionEnv S.nocell (by intro y hy;simp at hy) (fun h4 hns4 hsb4=>?_) S.kind) (by show 0<=sizeLine;exact Nat.zero_le _)
 have I3:Inv X pins σ (upd H2 s2.heap.objs.size (.lst [])) { s2 with heap:=s2.heap.push { cls:=.type "list",dict:=none,data:=.seq ([]:List Value).toArray } }:=
  I2.laid (t':=s2.toks) (fun b u e=>Heap.get?_push_of_some _ e) (Nat.le_refl _) ⟨Nat.zero_le _,[],0,.nil,Heap.get?_push_size _ rfl⟩
 have ltf:∀ b∈fp,b < s2.heap.objs.size:=fun b hb=>let⟨o,e,_⟩:=T.obj 0 _ st2 b hb;Heap.lt_size e;have f3:∀ b∈fp,FpOk X pins (upd H2 s2.heap.objs.size (.lst [])) b:=fun b hb=>⟨by rw[upd_ne (Nat.ne_of_lt (ltf b hb))];exact(f2 b hb).1,(f2 b hb).2⟩
 generalize hH:upd H2 s2.heap.objs.size (.lst [])=H3 at *;generalize hS3:({ s2 with heap:=s2.heap.push { cls:=.type "list",dict:=none,data:=.seq ([]:List Value).toArray } }:Shared)=s3 at *;have o3:∀ b∈fp,b < s3.heap.objs.size:=fun b hb=>by
  rw[← hS3];show b < (s2.heap.push _).objs.size;rw[Heap.size_push];exact Nat.lt_succ_of_lt (ltf b hb)
 have k4:∀ b o,s3.heap.get? b=some o->h4.get? b=some o:=fun b o e=>(hsb4.2 b (Nat.ne_of_lt (Heap.lt_size e))).trans (Heap.get?_push_of_some _ e);have st3:tn 0 s3.heap:=T.keep 0 _ _ st2 fun b hb o e=>by rw[← hS3];exact Heap.get?_push_of_some _ e
 have st4:tn 0 h4:=T.keep 0 _ _ st3 fun b hb o e=>k4 b o e;have I4:Inv (compCx X scope cl N' s3 H3 fp pins) [] (seenN os.length σ js) H3 { s3 with heap:=h4,toks:=s3.toks+([]:List (Str×Value)).length }:=compN_inv S I3 f3 o3 rfl rfl hns4 k4;have ok:=compN_ok S I3 f3 o3;have fp5:∀{H':Hp},(∀ b∈fp,H' b=none) -> ∀ b∈fp,FpOk (compCx X scope cl N' s3 H3 fp pins) [] H' b:=fun hn b hb=>
  ⟨hn b hb,Nat.ne_of_lt (o3 b hb),ok.exfs b hb,.inl hb,fun y c h=>(f3 b hb).2.2.2.2.1 y c (S.sub' h),fun p hp=>(f3 b hb).2.2.2.2.2 p (by
   have q:p∈(X.pn++pins)++[]:=hp;rw[List.append_nil]at q;exact q)⟩
 have loop:codeAny (model X.prog X.w) X.A (.compLoop (.ListComp elt [⟨tgt,iter,ifs,0⟩] scope pos) 0 (.ref it) (.ref s2.heap.objs.size) (compEnvC scope cl s3.heap.objs.size X.env))
  (RR (.ref s2.heap.objs.size) s3.heap.objs.size) { s3 with heap:=h4,toks:=s3.toks+([]:List (Str×Value)).length }:=by
  refine comp_loop (fun n s'=>∃ i σ' H',Inv (compCx X scope cl N' s3 H3 fp pins) [] σ' H' s'/\tn i s'.heap/\(∀ b∈fp,H' b=none)/\W i n σ' H') ?_ m0 ⟨0,_,_,I4,st4,fun b hb=>(f3 b hb).1,w0⟩;rintro n s5 ⟨i,σ5,H5,I5,st5,fr5,w5⟩;rcases turn i n σ5 H5 w5 with ⟨stop,q⟩ | ⟨go,step⟩
  · refine wpAny_mono (T.done (compCx X scope cl N' s3 H3 fp pins) rfl rfl rfl hc i [] s5 σ5 H5 (fun _ _=>False) I5 (fp5 fr5) st5 stop) (fun r s6 ⟨hr,I6⟩=>?_) (fun _ _ z=>z.elim)
    subst hr;obtain⟨m,hm,_⟩:=I6.loc;exact fin _ _ s6 H5 m hm (fun h' hs'=>comp_back I3 f3 I6 hs') I6.free (I3.fpOk (Nat.le_refl _) I6.free) q
  refine wpAny_mono (T.item (compCx X scope cl N' s3 H3 fp pins) rfl rfl rfl hc i [] s5 σ5 H5 (fun _ _=>False) I5 (fp5 fr5) st5 go) (fun r s6 ⟨u,hr,h6⟩=>?_) (fun _ _ z=>z.elim);subst hr;refine wpAny_mono h6 (fun _ s6 ⟨y,H6,I6,r6,y6,st6,fr6⟩=>?_) (fun _ _ z=>z.elim);have I6':=I6.pinned (fp5 fr6) (T.obj _ _ st6);have again:∀{σ7:L2.St}{H7:Hp}{s7:Shared}{m':Nat},Inv (compCx X scope cl N' s3 H3 fp pins) ([]++pinsAt fp s6.heap) σ7 H7 s7->m' < n->W (i+1) m' σ7 H7 ->
   ∃ m,m < n /\ ∃ i σ' H',Inv (compCx X scope cl N' s3 H3 fp pins) [] σ' H' s7/\tn i s7.heap/\(∀ b∈fp,H' b=none)/\W i m σ' H':=fun {σ7 H7 s7 m'} I7 hm w7=>by
   refine⟨m',hm,i+1,σ7,H7,I7.unpinned,T.keep _ _ _ st6 fun b hb o e=>(I7.pin (b,o) (List.mem_append_right _ (List.mem_append_right _ (mem_pinsAt hb e)))).1,fun b hb=>?_,w7⟩;obtain⟨o,e,d⟩:=T.obj _ _ st6 b hb;exact(I7.pin (b,o) (List.mem_append_right _ (List.mem_append_right _ (mem_pinsAt hb e)))).2.1
  have step':=step y H6 y6;refine wpAny_mono (hg s3 H3 fp pins _ s6 σ5 H6 y u _ I6' r6 step') (fun _ s7 ⟨σ7,H7,I7,step'⟩=>?_) (fun _ _ z=>z.elim);refine wpAny_mono (ht s3 H3 fp pins _ s7 _ H7 _ (fun _ _=>False) (fun _ _ z=>z) I7 step') (fun okk s8 ⟨H8,I8,q8⟩=>?_) (fun _ _ z=>z.elim);cases okk with
  | false=>
    obtain⟨m',hm,w8⟩:=q8;exact again I8 hm w8
  | true=>
    refine wpAny_mono (he s3 H3 fp pins _ s8 _ H8 _ I8 q8) (fun ev s9 ⟨z,H9,I9,r9,ys,hys,hlen,m',hm,w9⟩=>?_) (fun _ _ z=>z.elim);refine wpAny_mono (mt_append (X:=compCx X scope cl N' s3 H3 fp pins) _ s9 _ H9 (.ref s2.heap.objs.size) [z] (.ref s2.heap.objs.size) [ev] (fun _ H'=>H'=upd H9 s2.heap.objs.size (.lst (ys++[z]))) I9 rfl (.cons r9 .nil)
     ⟨_,ys,z,rfl,rfl,hys,hlen,rfl⟩) (fun _ s10 ⟨_,H10,I10,_,e10⟩=>?_) (fun _ _ z=>z.elim)
    subst e10;exact again I10 hm w9
 exact codeAny_compStart_list loop (T.self X.A 0 _ _ _ st4 loop)
theorem pe_compN(S:CompScopeN X scope cl os js N')(hc:X.calm=true)(hg:∀ s H fp pins,PG (compCx X scope cl N' s H fp pins) tgt gt)(hi:PI X tgt iter wi)
 (ht:∀ s H fp pins,PTs (compCx X scope cl N' s H fp pins) ifs tt) (he:∀ s H fp pins,PE (compCx X scope cl N' s H fp pins) elt te)
 (hs:∀ x,foldedSetIterable iter X.env x=pure x:=by intro _;rfl):PE X (.ListComp elt [⟨tgt,iter,ifs,0⟩] scope pos) (tCompN os.length js wi gt tt te):=by
 intro pins s σ H Q I h;rw[eval_ListComp];refine wpAny_comprehension_free (use:=none) rfl hs S.clos S.kind S.names (thn (hi pins s σ H _ I h) fun v s1 h1=>thn h1 fun itv s2 h2=>?_);obtain⟨it,fp,tn,J,H2,e,I2,T,st2,f2,k⟩:=h2;subst e;exact compN_core (RR:=fun acc C=>compPost (model X.prog X.w) X.A X.xe none (EP X pins σ Q) acc C) S hc hg ht he I2 T st2 f2 k fun D C s6 H6 m hm back _ _ q=>⟨m,hm,fun h' hs'=>⟨.ref D,H6,back h' hs',rfl,q⟩⟩
end
namespace B
section
variable{X:Cx}{scope:Scope}{cl:List (Str×Addr)}{tgt:Expr}{N':List Str}{elt iter c:Expr}{pos:Pos}{wi:TI}{gt:TG}{te:TE}{tc:TT}{os:List Str}
theorem compN(os:List Str)(js:List Nat)(N':List Str)(S:CompScopeN X scope cl os js N')(hi:Bx (PI X tgt iter wi))(hg:∀ s H fp pins,Bx (PG (compCx X scope cl N' s H fp pins) tgt gt))(he:∀ s H fp pins,Bx (PE (compCx X scope cl N' s H fp pins) elt te))(hc:X.calm=true:=by rfl)
 (hs:∀ x,foldedSetIterable iter X.env x=pure x:=by intro _;rfl):Bx (PE X (.ListComp elt [⟨tgt,iter,[],0⟩] scope pos) (tCompN os.length js wi gt (fun _ H Q=>Q true H) te)):=
 ⟨pe_compN S hc (fun s H fp pins=>(hg s H fp pins).out) hi.out (fun _ _ _ _=>pts_nil) (fun s H fp pins=>(he s H fp pins).out) hs⟩
end
end B
theorem CompScopeN.of{X:Cx}{scope:Scope}{cl:List (Str×Addr)}{os:List Str}{js:List Nat}{N':List Str}(clos:closureFor scope X.env=pure cl)(kind:scope.kind=.function)(nocell:scope.names.all (fun y=>y.2 != .cell)=true)
 (names:scope.names.all (fun y=>y.2 != .local || scope.names.lookup y.1 == some .local)=true) (sub:SubCl X.env.cells cl)
 (has:(relabel scope X.env).names.all (fun p=>!isCF (some p.2) || (cl.lookup p.1).isSome)=true) (nm:N'=os++js.map fun j=>X.N.getD j Str.empty)
 (see:js.all (fun j=>match X.N[j]? with | some y=>isCF (X.env.kindOf y) && isCF ((relabel scope X.env).names.lookup y) | none=>false)=true):CompScopeN X scope cl os js N' where
 clos:=clos
 kind:=kind
 nocell:=fun y hy=>by
  have:=List.all_eq_true.mp nocell y hy;exact bne_iff_ne.mp this
 names:=fun y hy e=>by
  have:=List.all_eq_true.mp names y hy;rw[e]at this;exact beq_iff_eq.mp (by simpa using this)
 sub:=sub.all
 has:=fun y h=>by
  have go:∀ k,(relabel scope X.env).names.lookup y=some k->isCF (some k)=true -> ∃ c,cl.lookup y=some c:=fun k hk hc=>by
   have:=List.all_eq_true.mp has (y,k) (PySem.mem_of_lookup hk);simp only[hc,Bool.not_true,Bool.false_or]at this;exact Option.isSome_iff_exists.mp this
  rcases h with h | h
  · exact go _ h rfl
  exact go _ h rfl
 nm:=nm
 see:=fun i j e=>by
  have:=List.all_eq_true.mp see j (List.mem_of_getElem? e);cases ey:X.N[j]? with
  | none=>rw[ey]at this;cases this
  | some y=>
    rw[ey]at this;rw[Bool.and_eq_true]at this;exact⟨y,rfl,isCF_of this.1,isCF_of this.2⟩
theorem wCompN{n:Nat}{σ:L2.St}{H:Hp}{Q:VK}{js:List Nat}{wi:TI}{gt:TG}{tt:TT}{te:TE}(h:wi σ H fun J H1=>∀ D,H1 D=none -> ∃ W:Nat->Nat->L2.St->Hp->Prop,(∃ m,W 0 m (seenN n σ js) (upd H1 D (.lst []))) /\
 ∀ i m σ' H',W i m σ' H'->(J.stop i H'/\Q (.ref D) H')∨(J.go i H' /\ ∀ x H2,J.yld i H' x H2->gt x σ' H2 fun σ2 H2'=>tt σ2 H2' fun ok H3=>
   if ok=true then te σ2 H3 fun y H4=>∃ ys,H4 D=some (.lst ys)/\ys.length < sizeLine /\ ∃ m',m' < m/\W (i+1) m' σ2 (upd H4 D (.lst (ys++[y])))
   else ∃ m',m' < m/\W (i+1) m' σ2 H3)):tCompN n js wi gt tt te σ H Q:=h
end SW
namespace SW
open PySem PySem.Spec PyProof.Rows L2
namespace B
theorem gtupK(K:W.Frag){X:Cx}{es:List Expr}{pos:Pos}{kk n:Nat}{u:TGs}(h:Bx (PGs X es u))(hK:X.K=K:=by rfl)(hc:X.calm=true:=by rfl)(hn:(assignEach es X.env).length=n:=by rfl)(hst:(assignEach es X.env).findIdx? (·.1)=none:=by rfl):Bx (PG X (.Tuple es kk pos) (gTup K n u)):=by
 subst hK;exact⟨pg_tup hc h.out hn hst⟩
end B
section
variable{prog:Program}{w:World}{A:Around}{E:Value->Shared->Prop}{s:Shared}
end
section
variable{X:Cx}{elts:List Expr}{k:Nat}{tp:Pos}
end
namespace B
end B
section
variable{CS CT:Addr}{H:Hp}{Q:VK}{E:XK}{p:Addr}{f m:Int}{pc:Nat}{M:MT}{tc:Int}{F:Addr->Prop}
end
section
variable{CS CT:Addr}{H:Hp}{Q:VK}{E:XK}{f m:Int}
end
section
variable{CS CT:Addr}{H H':Hp}{p p2:Addr}{f m f2 m2:Int}{pc pc2:Nat}{M M2:MT}{tc tc2:Int}{F F' G:Addr->Prop}
end
theorem wSeqC{D:Ends}{σ:L2.St}{H:Hp}{t u:TS}(h:∀ N:L2.St->Hp->Prop,N=u D->t { D with nx:=N } σ H):tSeq t u D σ H:=h _ rfl
theorem wGo{N N':L2.St->Hp->Prop}{σ:L2.St}{H:Hp}(e:N=N')(h:N' σ H):N σ H:=e ▸ h
@[elab_as_elim] theorem len0{α:Type}{P:List α -> Prop}(us:List α)(hl:us.length=0)(h:Unit->P []):P us:=by
  cases us with
  | nil=>exact h ()
  | cons a l=>cases hl
@[elab_as_elim] theorem len1{α:Type}{P:List α -> Prop}(us:List α)(hl:us.length=1)(h:∀ a,P [a]):P us:=by
  cases us with
  | nil=>cases hl
  | cons a l=>exact len0 (P:=fun l=>P (a::l)) l (Nat.succ.inj hl) fun _=>h a
@[elab_as_elim] theorem len2{α:Type}{P:List α -> Prop}(us:List α)(hl:us.length=2)(h:∀ a b,P [a,b]):P us:=by
  cases us with
  | nil=>cases hl
  | cons a l=>exact len1 (P:=fun l=>P (a::l)) l (Nat.succ.inj hl) fun b=>h a b
@[elab_as_elim] theorem len3{α:Type}{P:List α -> Prop}(us:List α)(hl:us.length=3)(h:∀ a b c,P [a,b,c]):P us:=by
  cases us with
  | nil=>cases hl
  | cons a l=>exact len2 (P:=fun l=>P (a::l)) l (Nat.succ.inj hl) fun b c=>h a b c
@[elab_as_elim] theorem len4{α:Type}{P:List α -> Prop}(us:List α)(hl:us.length=4)(h:∀ a b c d,P [a,b,c,d]):P us:=by
  cases us with
  | nil=>cases hl
  | cons a l=>exact len3 (P:=fun l=>P (a::l)) l (Nat.succ.inj hl) fun b c d=>h a b c d
@[elab_as_elim] theorem len5{α:Type}{P:List α -> Prop}(us:List α)(hl:us.length=5)(h:∀ a b c d e,P [a,b,c,d,e]):P us:=by
  cases us with
  | nil=>cases hl
  | cons a l=>exact len4 (P:=fun l=>P (a::l)) l (Nat.succ.inj hl) fun b c d e=>h a b c d e
theorem walkX{q:Program}{loose:List Str}{XP:(Str->Option Value)->Heap->Prop}{K:Params->W.Frag}{as:List Addr}{n t:Nat}{r:W.RowW}{d:DefRec}{kwd:List (Str×Expr)}{run:Value->List Value->Sem Value}
 (e:∀ P,as=(K P).map (·.1)) (h:W.WalkO q loose XP (W.InK K) r d kwd run):W.WalkX q loose XP (W.X.obsZ as) (W.X.valZ K n t) r d kwd run:=
 fun w s₀ s₁ mg mb G y a o pm cd doc dV kV ho hd hcd hD hmg hg args vals as' L hpre=>h w s₀ s₁ mg mb G (W.InK.keeps w _ _ (W.X.z_facts e y).2.1 (W.Laid.keeps L)) a o pm cd doc dV kV ho hd hcd hD hmg hg args vals as' hpre
noncomputable def Cut(M:L2.St->Hp->Prop)(G:(L2.St->Hp->Prop)->Prop):Prop:=∀ N,N=M->G N
theorem wCut{M:L2.St->Hp->Prop}{G:(L2.St->Hp->Prop)->Prop}(h:∀ N,N=M->G N):Cut M G:=h
theorem forListC{K:PySem.W.Frag}{a:Addr}{xs:List V}{g:TG}{tb:TS}{D:Ends}{σ:L2.St}{H:Hp}(Pv:Nat->L2.St->Hp->Prop)(h0:Pv 0 σ H)(hl:∀ i σ H,i<=xs.length->Pv i σ H->SqL K H a xs)
 (hs:∀ i x σ H,xs[i]?=some x->Pv i σ H->Cut (Pv (i+1)) fun N=>g x σ H fun σ2 H2=>tb { D with nx:=N,ct:=N,bk:=D.nx } σ2 H2) (hd:∀ σ H,Pv xs.length σ H->D.nx σ H) :
 ∃ W:Nat->Nat->L2.St->Hp->Prop,(∃ m,W 0 m σ H) /\ ∀ i m σ H,W i m σ H ->
   ((Itl K a).stop i H/\D.nx σ H)∨((Itl K a).go i H /\ ∃ N:L2.St->Hp->Prop,(∀ σ' H',N σ' H' -> ∃ m',m' < m/\W (i+1) m' σ' H') /\ ∀ x H',(Itl K a).yld i H x H'->g x σ H' fun σ2 H2=>tb { D with nx:=N,ct:=N,bk:=D.nx } σ2 H2):=
 for_list Pv h0 hl (fun i x σ H e p=>hs i x σ H e p _ rfl) hd
theorem forRangeC{lo:Int}{n:Nat}{g:TG}{tb:TS}{D:Ends}{σ:L2.St}{H:Hp}(Pv:Nat->L2.St->Hp->Prop)(h0:Pv 0 σ H)
 (hs:∀ i σ H,i < n->Pv i σ H->Cut (Pv (i+1)) fun N=>g (.int (lo+i)) σ H fun σ2 H2=>tb { D with nx:=N,ct:=N,bk:=D.nx } σ2 H2) (hd:∀ σ H,Pv n σ H->D.nx σ H) :
 ∃ W:Nat->Nat->L2.St->Hp->Prop,(∃ m,W 0 m σ H) /\ ∀ i m σ H,W i m σ H ->
   ((Itr lo n).stop i H/\D.nx σ H)∨((Itr lo n).go i H /\ ∃ N:L2.St->Hp->Prop,(∀ σ' H',N σ' H' -> ∃ m',m' < m/\W (i+1) m' σ' H') /\ ∀ x H',(Itr lo n).yld i H x H'->g x σ H' fun σ2 H2=>tb { D with nx:=N,ct:=N,bk:=D.nx } σ2 H2):=
 for_range Pv h0 (fun i σ H e p=>hs i σ H e p _ rfl) hd
section
variable{K:W.Frag}{H:Hp}{p C dx:Addr}{fs:List (Str×V)}{v:V}{f:Str}
theorem iFld{R:Addr->Addr->V->Prop}(hp:H p=some (.ins C dx fs))(hc:Cls K C)(hn:NoAttr K C f)(hl:fs.lookup f=some v)(h:R p C v):∃ a C dx fs v,V.ref p=.ref a/\H a=some (.ins C dx fs)/\Cls K C/\NoAttr K C f/\fs.lookup f=some v/\R a C v:=⟨p,C,dx,fs,v,rfl,hp,hc,hn,hl,h⟩
theorem iSFld{R:Addr->Addr->Addr->List (Str×V)->Prop}(hp:H p=some (.ins C dx fs))(hc:Cls K C)(hn:NoAttr K C f)(hl:fs.length < 1000)(h:R p C dx fs):∃ a C dx fs,V.ref p=.ref a/\H a=some (.ins C dx fs)/\Cls K C/\NoAttr K C f/\fs.length < 1000/\R a C dx fs:=⟨p,C,dx,fs,rfl,hp,hc,hn,hl,h⟩
theorem iIsi{x:V}{T:String}{t:Value}{b:Bool}{R:Bool->Prop}(ty:TyOf K H x t)(e:W.kitOne K t (.type T)=some b)(h:R b):∃ x' T' t' b',[x,V.ty T]=[x',V.ty T']/\TyOf K H x' t'/\W.kitOne K t' (.type T')=some b'/\R b':=⟨x,T,t,b,rfl,ty,e,h⟩
theorem iLen{l:Addr}{ys:List V}{R:List V->Prop}(h1:SqL K H l ys∨SqT K H l ys)(h:R ys):∃ p ys,[V.ref l]=[V.ref p]/\(SqL K H p ys∨SqT K H p ys)/\R ys:=⟨l,ys,rfl,h1,h⟩
end
section
variable{CS CT:Addr}{H:Hp}{Q:VK}{E:XK}{p:Addr}{k f m:Int}{pc:Nat}{M:MT}{tc:Int}{F:Addr->Prop}
end
theorem fs{N P:List Str}{sc:Scope}(a:sc.kind=.function:=by rfl)(b:sc.isCoroutine=false:=by rfl)(c:sc.isGenerator=false:=by rfl)(d:N.Nodup:=by decide +kernel)(e:N.take P.length=P:=by rfl)(f:∀ x∈P,sc.names.lookup x=some .local∨sc.names.lookup x=some .cell:=by decide +kernel)(h:∀ y∈sc.names,y.2 ≠ .free:=by decide +kernel):FnScope N P sc:=⟨a,b,c,d,e,f,h⟩
theorem bd1{K:W.Frag}{x qual p0:Str}{st:Stmt}{f:Addr}{fd:FuncData}(F:Fun K x qual st f fd)(h:∀(kV doc pm:Value) (an:Option Addr) (cdv ct:Value) (a0:Value),bindArgs (W.fnOf x qual (defArgs st) (defBody st) (defScope st) .none kV doc pm an cdv ct) ⟨[a0],[]⟩=pure ([(p0,a0)]):=by intros;rfl):Binds K fd [p0] []:=F.binds fun _ _ _ _ _ _ us hl=>len1 us hl fun a0=>h _ _ _ _ _ _ a0
theorem bd2{K:W.Frag}{x qual p0 p1:Str}{st:Stmt}{f:Addr}{fd:FuncData}(F:Fun K x qual st f fd)(h:∀(kV doc pm:Value) (an:Option Addr) (cdv ct:Value) (a0 a1:Value),bindArgs (W.fnOf x qual (defArgs st) (defBody st) (defScope st) .none kV doc pm an cdv ct) ⟨[a0,a1],[]⟩=pure ([(p0,a0),(p1,a1)]):=by intros;rfl):Binds K fd [p0,p1] []:=F.binds fun _ _ _ _ _ _ us hl=>len2 us hl fun a0 a1=>h _ _ _ _ _ _ a0 a1
theorem bd3{K:W.Frag}{x qual p0 p1 p2:Str}{st:Stmt}{f:Addr}{fd:FuncData}(F:Fun K x qual st f fd)(h:∀(kV doc pm:Value) (an:Option Addr) (cdv ct:Value) (a0 a1 a2:Value),bindArgs (W.fnOf x qual (defArgs st) (defBody st) (defScope st) .none kV doc pm an cdv ct) ⟨[a0,a1,a2],[]⟩=pure ([(p0,a0),(p1,a1),(p2,a2)]):=by intros;rfl):Binds K fd [p0,p1,p2] []:=F.binds fun _ _ _ _ _ _ us hl=>len3 us hl fun a0 a1 a2=>h _ _ _ _ _ _ a0 a1 a2
theorem bd4{K:W.Frag}{x qual p0 p1 p2 p3:Str}{st:Stmt}{f:Addr}{fd:FuncData}(F:Fun K x qual st f fd)(h:∀(kV doc pm:Value) (an:Option Addr) (cdv ct:Value) (a0 a1 a2 a3:Value),bindArgs (W.fnOf x qual (defArgs st) (defBody st) (defScope st) .none kV doc pm an cdv ct) ⟨[a0,a1,a2,a3],[]⟩=pure ([(p0,a0),(p1,a1),(p2,a2),(p3,a3)]):=by intros;rfl):Binds K fd [p0,p1,p2,p3] []:=F.binds fun _ _ _ _ _ _ us hl=>len4 us hl fun a0 a1 a2 a3=>h _ _ _ _ _ _ a0 a1 a2 a3
noncomputable def Ite(K:W.Frag)(l:Addr):It:=
 ⟨fun i H=>∃ xs x,SqL K H l xs/\xs[i]?=some x,
  fun i H v H'=>∃ T x,H T=none/\v=.ref T/\(∀ xs,SqL K H l xs->xs[i]?=some x)/\H'=upd H T (.tup [.int i,x]),
  fun i H=>∃ xs,SqL K H l xs/\xs.length<=i⟩
theorem turn_enum{P:Program}{w:World}{K:W.Frag}{elts:List Expr}{k:Nat}{pos:Pos}(l e it:Addr)(hne:e≠it):Turn P w K (.Tuple elts k pos) (Ite K l) [e,it] e
 (fun i h=>(∃ old,IsEnum h e it ((i:Nat):Int) old)/\h.IsListIter it l i) where
 mem:=by simp
 obj:=fun i h st b hb=>by
  obtain⟨⟨old,s1⟩,⟨o1,e1,c1,d1⟩⟩:=st;simp only[List.mem_cons,List.not_mem_nil,or_false]at hb;rcases hb with rfl | rfl
  · exact⟨_,s1,fun v q=>by cases q⟩
  exact⟨_,e1,fun v q=>by rw[d1]at q;cases q⟩
 keep:=fun i h h' st kk=>by
  obtain⟨⟨old,s1⟩,s4⟩:=st;exact⟨⟨old,kk e (by simp) _ s1⟩,s4.at fun o g=>kk it (by simp) o g⟩
 item:=by
  intro X hP hw hK hc i pins s σ H E I hf st hg;subst hP hw hK;obtain⟨xs,x,hl,hx⟩:=hg;obtain⟨⟨old,s1⟩,s4⟩:=st;obtain⟨its1,rv1,p1,hz1⟩:=I.list hl;obtain⟨u1,hu1,ru1⟩:=rv1.get hx;refine wpAny_pyNext_enum_item s1 s4 p1.isList (x:=u1) (by simpa using hu1) hne fun h1 a1 a4 a5 a6 kk=>?_
  refine⟨_,rfl,wpAny_letOwnedTupleGo_enum a1 fun h2 b1 sb=>?_⟩;have ezT:s.heap.objs.size≠e:=Nat.ne_of_gt (Heap.lt_size s1);have g5:h2.get? s.heap.objs.size=some { cls:=.type "tuple",data:=.seq #[.int i s.toks,u1] }:=sb.extBut _ _ ezT a5;have keep2:∀ b u,b∉[e,it]->s.heap.get? b=some u->h2.get? b=some u:=fun b u hb g=>by
   simp only[List.mem_cons,List.not_mem_nil,or_false,not_or]at hb;exact sb.extBut _ _ hb.1 (kk b u hb.1 hb.2 g)
  have I2:=Inv.turnedNew (t':=s.toks+1) (h':=h2) (a:=s.heap.objs.size) (o:=.tup [.int i,x]) I keep2 hf (Nat.le_refl _)
   ⟨by show(2:Nat)<=sizeLine;decide,[.int i s.toks,u1],.cons ⟨_,rfl⟩ (.cons ru1 .nil),_,g5,rfl,_,rfl⟩
  refine⟨.ref s.heap.objs.size,_,I2,rfl,⟨_,x,I.hok.fresh (Nat.le_refl _),rfl,fun zs hz=>by rw[I.list_inj hz hl];exact hx,rfl⟩,⟨⟨_,b1⟩,a4.extBut sb.extBut hne.symm⟩,fun b hb=>?_⟩
  rw[upd_ne ?_]
  · exact(hf b hb).1
  obtain⟨o1,e1,_⟩:=s4;simp only[List.mem_cons,List.not_mem_nil,or_false]at hb;rcases hb with rfl | rfl
  · exact Nat.ne_of_lt (Heap.lt_size s1)
  exact Nat.ne_of_lt (Heap.lt_size e1)
 done:=by
  intro X hP hw hK hc i pins s σ H E I hf st hg;subst hP hw hK;obtain⟨xs,hl,hx⟩:=hg;obtain⟨⟨old,s1⟩,s4⟩:=st;obtain⟨its1,rv1,p1,hz1⟩:=I.list hl;have l1:=rv1.length;refine wpAny_pyNext_enum_end (I.ok.hd hc) s1 s4 p1.isList (by simp;omega) fun h1 kk=>⟨rfl,Inv.turnedL (t':=s.toks) I (fun b u hb g=>?_) hf⟩
  simp only[List.mem_cons,List.not_mem_nil,or_false,not_or]at hb;exact kk b u hb.2 g
 self:=fun _ _ _ _ _ st h=>by
  obtain⟨⟨old,s1⟩,_⟩:=st;exact wpAny_pyIter_enum s1 h
theorem b_enumerate:bootBuiltins "enumerate"=some (.type "enumerate"):=by decide +kernel
section
variable{X:Cx}{elts:List Expr}{k:Nat}{tp:Pos}
noncomputable def iEnum(K:W.Frag)(ta:TA):TI:=fun σ H R=>ta σ H fun vs H1=>∃ l,vs=[.ref l]/\(∃ xs,SqL K H1 l xs)/\R (Ite K l) H1
theorem pi_enum{a:Expr}{ta:TA}{p pos:Pos}(hg:Gl X "enumerate")(hm:X.mg "enumerate"=none)(ha:PA X [a] ta)(hs:starEach [a] X.env=[(false,eval a X.env)]) :
 PI X (.Tuple elts k tp) (.Call (.Name "enumerate" p) [a] [] pos) (iEnum X.K ta):=by
 intro pins s σ H R I h;refine Call_ (ld_blt I hg hm b_enumerate (PyProof.Rows.callWith_type1 (thn (ha pos pins s σ H _ I h) fun us s1 ⟨vs,H1,I1,r1,q1⟩=>?_) hs rfl));obtain⟨l,e,⟨xs,hl⟩,q⟩:=q1;subst e;obtain⟨u,rfl,ru⟩:=vals1 r1;cases ru;obtain⟨its1,rv1,p1,_⟩:=I1.list hl;refine call_enumerate_list p1.isList fun h' he hit hsz hk=>wpAny_pyIter_enum he ?_;refine⟨s1.heap.objs.size+1,[s1.heap.objs.size+1,s1.heap.objs.size],_,_,H1,rfl,I1.kept (t':=s1.toks) hk,turn_enum l _ _ (Nat.succ_ne_self _),⟨⟨_,he⟩,hit⟩,fun b hb=>?_,q⟩;have hb':s1.heap.objs.size<=b:=by
  simp only[List.mem_cons,List.not_mem_nil,or_false]at hb;rcases hb with rfl | rfl
  · exact Nat.le_add_right _ 1
  exact Nat.le_refl _
 exact I1.fpOk hb' (I1.hok.fresh hb')
end
namespace B
theorem ienum{X:Cx}{elts:List Expr}{k:Nat}{tp:Pos}{a:Expr}{t:TA}{p pos:Pos}(hm:X.mg "enumerate"=none)(ha:Bx (PA X [a] t))(hg:Gl X "enumerate":=by rfl)(h1:plainE a=true:=by rfl):Bx (PI X (.Tuple elts k tp) (.Call (.Name "enumerate" p) [a] [] pos) (iEnum X.K t)):=
 ⟨pi_enum hg hm ha.out (by rw[star_of h1];rfl)⟩
end B
theorem wEnum{K:W.Frag}{σ:L2.St}{H:Hp}{ta:TA}{R:It->Hp->Prop}(h:ta σ H fun vs H1=>∃ l,vs=[.ref l]/\(∃ xs,SqL K H1 l xs)/\R (Ite K l) H1):iEnum K ta σ H R:=h
theorem for_enum{K:PySem.W.Frag}{l:Addr}{xs:List V}{g:TG}{tb:TS}{D:Ends}{σ:L2.St}{H:Hp}(Pv:Nat->L2.St->Hp->Prop)(h0:Pv 0 σ H)(hl:∀ i σ H,Pv i σ H->SqL K H l xs)
 (hs:∀ i x σ H T,xs[i]?=some x->H T=none->Pv i σ H->g (.ref T) σ (upd H T (.tup [.int i,x])) fun σ2 H2=>tb { D with nx:=Pv (i+1),ct:=Pv (i+1),bk:=D.nx } σ2 H2) (hd:∀ σ H,Pv xs.length σ H->D.nx σ H) :
 ∃ W:Nat->Nat->L2.St->Hp->Prop,(∃ m,W 0 m σ H) /\ ∀ i m σ H,W i m σ H ->
   ((Ite K l).stop i H/\D.nx σ H)∨((Ite K l).go i H /\ ∃ N:L2.St->Hp->Prop,(∀ σ' H',N σ' H' -> ∃ m',m' < m/\W (i+1) m' σ' H') /\ ∀ x H',(Ite K l).yld i H x H'->g x σ H' fun σ2 H2=>tb { D with nx:=N,ct:=N,bk:=D.nx } σ2 H2):=by
 refine⟨fun i m σ H=>m=xs.length - i/\i<=xs.length/\Pv i σ H,⟨xs.length,by simp,Nat.zero_le _,h0⟩,?_⟩
 rintro i m σ H ⟨rfl,hi,p⟩;have q:=hl i σ H p;by_cases hlt:i < xs.length
 · refine .inr ⟨⟨xs,xs[i],q,by simp[hlt]⟩,Pv (i+1),fun σ' H' p'=>⟨xs.length - (i+1),by omega,rfl,hlt,p'⟩,fun v H' y=>?_⟩
   obtain⟨T,x,hT,rfl,hx,rfl⟩:=y;exact hs i x σ H T (hx xs q) hT p
 have e:i=xs.length:=by omega
 subst e;exact .inl ⟨⟨xs,q,Nat.le_refl _⟩,hd _ _ p⟩
theorem walks_list{prog:Program}{w:World}{A:Around}(hh:A.handled=none)(I l:Addr)(hne:l≠I)(items:Array Value):Walks prog w A I [I,l] [I] items.size (fun i v=>items[i]?=some v) (fun i h=>h.IsListIter I l i/\h.IsList l items) where
 sub:=by simp
 frame:=fun i h h' st k=>⟨st.1.at fun o e=>k I (by simp) o e,st.2.at fun o e=>k l (by simp) o e⟩
 item:=fun i s Q E hi st hQ=>by
  refine wpAny_pyNext_list_item st.1 st.2 (x:=items[i]) (by simp[hi]) fun h' a sb=>?_
  exact hQ items[i] h' s.toks (by simp[hi]) ⟨a,st.2.extBut sb.extBut hne⟩ fun b o hb e=>sb.extBut b o (fun z=>hb (by simp[z])) e
 done:=fun s Q E st hQ=>by
  refine wpAny_pyNext_list_end hh st.1 st.2 (by simp) fun h' kk=>?_
  exact hQ h' s.toks fun b o hb e=>kk b o (fun z=>hb (by simp[z])) e
 self:=fun i s Q E st hQ=>wpAny_pyIter_listiter st.1 hQ
theorem all_getD:∀ bs:List Bool,(List.range bs.length).all (fun i=>bs.getD i false)=bs.all id
 | []=>rfl
 | b::bs=>by
   rw[List.length_cons,List.range_succ_eq_map,List.all_cons,List.all_map,List.all_cons]
   congr 1
   exact all_getD bs
theorem b_all:bootBuiltins "all"=some (.builtin "all"):=by decide +kernel
theorem call_allL{X:Cx}:CallR X (.builtin "all") (fun xs H Q=>∃ l bs,xs=[.ref l]/\SqL X.K H l (List.map V.bl bs)/\X.calm=true/\Q (.bl (List.all bs id)) H):=by
 intro pins s σ H xs us Q I r h;obtain⟨l,bs,rfl,hl,hc,q⟩:=h;obtain⟨u,rfl,rx⟩:=vals1 r;cases rx;obtain⟨its,rv,pl,_⟩:=I.list hl;have le:=rv.length;rw[List.length_map]at le;have hv:∀(i:Nat) v,its[i]?=some v->v=.bool (bs.getD i false):=fun i v e=>by
  have hi:i < its.length:=(List.getElem?_eq_some_iff.mp e).1;obtain⟨u,hu,ru⟩:=rv.get (i:=i) (x:=V.bl bs[i]) (by simp[le ▸ hi])
  rw[e]at hu;cases hu;rw[show v=Value.bool bs[i]from ru,List.getD_eq_getElem?_getD,List.getElem?_eq_getElem (by omega)]
  rfl
 have lt:l < s.heap.objs.size:=by
  obtain⟨o,e,_⟩:=pl.isList;exact Heap.lt_size e
 have W:=walks_list (prog:=X.prog) (w:=X.w) (A:=X.A.in1) (show X.A.in1.handled=none from I.ok.hd hc) s.heap.objs.size l (Nat.ne_of_lt lt) its.toArray;refine call_all_walk (wpAny_pyIter_list pl.isList ⟨_,_,_,_,_,_,fun i=>bs.getD i false,rfl,W,And.intro ?_ ?_,?_,fun h' tk hk=>?_⟩)
 · exact⟨_,Heap.get?_push_size _ rfl,rfl,rfl⟩
 · exact pl.isList.push _
 · intro i v s' Q' E' hp hq
   rw[hv i v (by simpa using hp)]
   exact wpAny_truthy_bool hq
 have ea:(List.range its.toArray.size).all (fun i=>bs.getD i false)=bs.all id:=by
  rw[List.size_toArray,← le];exact all_getD bs
 rw[ea];refine⟨.bl (bs.all id),H,I.kept (t':=tk) (fun b o e=>hk b o (fun z=>?_) (Heap.get?_push_of_some _ e)),rfl,q⟩;rw[List.mem_singleton]at z;subst z;exact absurd (Heap.lt_size e) (Nat.lt_irrefl _)
theorem b_dict:bootBuiltins "dict"=some (.type "dict"):=by decide +kernel
theorem b_sorted:bootBuiltins "sorted"=some (.builtin "sorted"):=by decide +kernel
theorem call_dictD{X:Cx}:CallR X (.type "dict") (fun xs H Q=>∃ a kvs,xs=[.ref a]/\H a=some (.dK kvs) /\ ∀ p,H p=none->Q (.ref p) (upd H p (.dK kvs))):=by
 intro pins s σ H xs us Q I r h;obtain⟨a,kvs,rfl,ha,q⟩:=h;obtain⟨u,rfl,rx⟩:=vals1 r;cases rx;exact d_copyOf I (.inl ha) fun p s' hp I'=>⟨.ref p,_,I',rfl,q p hp⟩
section
variable{prog:Program}{w:World}{A:Around}{E:Value->Shared->Prop}{s:Shared}{T:String}{r d:Addr}{n:Nat}{P:Nat->Value->Prop}{OK:Heap->Prop}
theorem collect_code{R:Result->Shared->Prop}(K:W.KdlSrc prog w T r d n P OK)(hh:A.handled=none)(hok:OK s.heap)(hn:n<=sizeLine)
 (hR:∀ h' tk acc' c',(∀ b o,s.heap.get? b=some o->h'.get? b=some o)->h'.get? s.heap.objs.size=some { cls:=.type "list",dict:=none,data:=.seq acc' c',slots:=#[] } -> ItemsOf P acc' n->R (.ok (.ret (.ref s.heap.objs.size))) { s with heap:=h',toks:=tk }) :
 codeAny (model prog w) A (.builtin "proto.collect" ⟨[.ref r],[]⟩) R s:=by
 have hlt:=K.there _ hok;refine codeAny_builtin PySem.F.entry_proto_collect ?_;rw[Around.under_plainId PySem.F.plain_proto_collect _];show wpAny _ A.in1 (newList [] >>= fun l=>again (.builtin "list.__iadd__" ⟨[l,.ref r],[]⟩)) _ _ s;refine wpAny_bind (wpAny_newObj_type ?_);refine wpAny_pure ⟨plainId_quiet PySem.F.plain_list_iadd _,codeAny_builtin PySem.F.entry_list_iadd ?_⟩;rw[Around.under_plainId PySem.F.plain_list_iadd _];have hS₁:(s.heap.push { cls:=.type "list",data:=.seq ([]:List Value).toArray }).get? s.heap.objs.size=some { cls:=.type "list",data:=.seq ([]:List Value).toArray }:=Heap.get?_push_size _ rfl;exact W.kdl_extend (A:=A) (R:=R) (s:={ s with heap:=s.heap.push { cls:=.type "list",data:=.seq ([]:List Value).toArray } }) K hh (K.keep _ _ hok fun b _ o e=>Heap.get?_push_of_some _ e) _ (Nat.ne_of_gt hlt.1) (Nat.ne_of_gt hlt.2) (.ref s.heap.objs.size) _ hS₁ (fun h' tk acc' c' hk hS' hacc=>
  hR h' tk acc' c' (fun b o e=>hk b o (Nat.ne_of_lt (Heap.lt_size e)) (Heap.get?_push_of_some _ e)) hS' hacc) hn
theorem collect_src{Q:List Value->Shared->Prop}(K:W.KdlSrc prog w T r d n P OK)(hh:A.handled=none)(hok:OK s.heap)(hn:n<=sizeLine)
 (h:∀ h' tk (acc:Array Value),(∀ b o,s.heap.get? b=some o->h'.get? b=some o)->s.heap.objs.size < h'.objs.size->ItemsOf P acc n->Q acc.toList { s with heap:=h',toks:=tk }) :
 wpAny (model prog w) A (collect (.ref r)) Q E s:=by
 unfold collect;refine wpAny_bind (wpAny_runValue (collect_code K hh hok hn fun h' tk acc' c' hk hS' hacc=>?_));show wpAny _ A (load s.heap.objs.size >>= _) _ _ _;refine wpAny_bind (wpAny_load hS' ?_);exact wpAny_pure (h h' tk acc' hk (Heap.lt_size hS') hacc)
end
theorem ints_at:∀(ns:List Int) (vs:List Value),vs.length=ns.length->(∀(i:Nat) v,vs[i]?=some v -> ∃ n t,ns[i]?=some n/\v=.int n t)->IntsAre vs ns
 | [],[],_,_=>.nil
 | [],_::_,h,_=>by simp at h
 | _::_,[],h,_=>by simp at h
 | n::ns,v::vs,h,g=>by
   obtain⟨k,t,e,rfl⟩:=g 0 v rfl;cases (Option.some.inj e);exact .cons n t (ints_at ns vs (by simpa using h) fun i v e=>by simpa using g (i+1) v (by simpa using e))
theorem vals_ints:∀{vs:List Value}{ns:List Int},IntsAre vs ns->Vals (ns.map V.int) vs
 | _,_,.nil=>.nil
 | _,_,.cons n t r=>.cons ⟨t,rfl⟩ (vals_ints r)
section
variable{X:Cx}{e st:Expr}{te ts:TE}{pos p2:Pos}
end
section
variable{K:W.Frag}{a D:Addr}{xs:List V}{σ0:L2.St}{H1:Hp}{gt:TG}{tt:TT}{te:TE}
theorem comp_tup{Qf:Hp->Prop}(Pv:Nat->L2.St->Hp->Prop)(h0:Pv 0 σ0 H1)(hl:∀ i σ H,i<=xs.length->Pv i σ H->SqT K H a xs)
 (step:∀ i x σ' H',xs[i]?=some x->i < xs.length->Pv i σ' H'->tt (σ'.set 0 (some x)) H' fun ok H3=>if ok=true then te (σ'.set 0 (some x)) H3 (fun y H4=>CN Pv xs.length i D (σ'.set 0 (some x)) y H4)else CO Pv xs.length i (σ'.set 0 (some x)) H3)
 (fin:∀ σ H,Pv xs.length σ H->Qf H) :
 ∃ W:Nat->Nat->L2.St->Hp->Prop,(∃ m,W 0 m σ0 H1) /\ ∀ i m σ' H',W i m σ' H'->((Itt K a).stop i H'/\Qf H')∨((Itt K a).go i H' /\ ∀ x H2,(Itt K a).yld i H' x H2->tt (σ'.set 0 (some x)) H2 fun ok H3=>
   if ok=true then te (σ'.set 0 (some x)) H3 fun y H4=>∃ ys,H4 D=some (.lst ys)/\ys.length < sizeLine /\ ∃ m',m' < m/\W (i+1) m' (σ'.set 0 (some x)) (upd H4 D (.lst (ys++[y])))
   else ∃ m',m' < m/\W (i+1) m' (σ'.set 0 (some x)) H3):=by
 refine⟨fun i m σ H=>m=xs.length - i/\i<=xs.length/\Pv i σ H,⟨xs.length,by omega,Nat.zero_le _,h0⟩,?_⟩
 rintro i m σ' H' ⟨rfl,hi,p⟩;have q:=hl i σ' H' hi p;by_cases hlt:i < xs.length
 · refine .inr ⟨⟨xs,xs[i],q,by simp[hlt]⟩,fun x H2 y=>?_⟩
   obtain⟨rfl,y⟩:=y;exact step i x σ' _ (y xs q) hlt p
 have e:i=xs.length:=by omega
 subst e;exact .inl ⟨⟨xs,q,Nat.le_refl _⟩,fin _ _ p⟩
theorem comp_tupU{Qf:Hp->Prop}(Pv:Nat->L2.St->Hp->Prop)(h0:Pv 0 σ0 H1)(hl:∀ i σ H,i<=xs.length->Pv i σ H->SqT K H a xs)
 (step:∀ i x σ' H',xs[i]?=some x->i < xs.length->Pv i σ' H'->te (σ'.set 0 (some x)) H' (fun y H4=>CN Pv xs.length i D (σ'.set 0 (some x)) y H4))
 (fin:∀ σ H,Pv xs.length σ H->Qf H) :
 ∃ W:Nat->Nat->L2.St->Hp->Prop,(∃ m,W 0 m σ0 H1) /\ ∀ i m σ' H',W i m σ' H'->((Itt K a).stop i H'/\Qf H')∨((Itt K a).go i H' /\ ∀ x H2,(Itt K a).yld i H' x H2 ->
   if true=true then te (σ'.set 0 (some x)) H2 fun y H4=>∃ ys,H4 D=some (.lst ys)/\ys.length < sizeLine /\ ∃ m',m' < m/\W (i+1) m' (σ'.set 0 (some x)) (upd H4 D (.lst (ys++[y])))
   else ∃ m',m' < m/\W (i+1) m' (σ'.set 0 (some x)) H2):=
 comp_tup (tt:=fun _ H Q=>Q true H) Pv h0 hl (fun i x σ' H' e hi p=>iteT (step i x σ' H' e hi p)) fin
theorem compN_tup{Qf:Hp->Prop}(Pv:Nat->L2.St->Hp->Prop)(h0:Pv 0 σ0 H1)(hl:∀ i σ H,i<=xs.length->Pv i σ H->SqT K H a xs)
 (step:∀ i x σ' H',xs[i]?=some x->i < xs.length->Pv i σ' H'->gt x σ' H' fun σ2 H2'=>tt σ2 H2' fun ok H3=>if ok=true then te σ2 H3 (fun y H4=>CN Pv xs.length i D σ2 y H4)else CO Pv xs.length i σ2 H3)
 (fin:∀ σ H,Pv xs.length σ H->Qf H) :
 ∃ W:Nat->Nat->L2.St->Hp->Prop,(∃ m,W 0 m σ0 H1) /\ ∀ i m σ' H',W i m σ' H'->((Itt K a).stop i H'/\Qf H')∨((Itt K a).go i H' /\ ∀ x H2,(Itt K a).yld i H' x H2->gt x σ' H2 fun σ2 H2'=>tt σ2 H2' fun ok H3=>
   if ok=true then te σ2 H3 fun y H4=>∃ ys,H4 D=some (.lst ys)/\ys.length < sizeLine /\ ∃ m',m' < m/\W (i+1) m' σ2 (upd H4 D (.lst (ys++[y])))
   else ∃ m',m' < m/\W (i+1) m' σ2 H3):=by
 refine⟨fun i m σ H=>m=xs.length - i/\i<=xs.length/\Pv i σ H,⟨xs.length,by omega,Nat.zero_le _,h0⟩,?_⟩
 rintro i m σ' H' ⟨rfl,hi,p⟩;have q:=hl i σ' H' hi p;by_cases hlt:i < xs.length
 · refine .inr ⟨⟨xs,xs[i],q,by simp[hlt]⟩,fun x H2 y=>?_⟩
   obtain⟨rfl,y⟩:=y;exact step i x σ' _ (y xs q) hlt p
 have e:i=xs.length:=by omega
 subst e;exact .inl ⟨⟨xs,q,Nat.le_refl _⟩,fin _ _ p⟩
end
section
variable{X:Cx}
noncomputable def rCatA:R2:=fun x y H Q=>∃ a b xs ys,x=.ref a/\y=.ref b/\H a=some (.tup xs)/\H b=some (.tup ys)/\xs.length+ys.length<=sizeLine /\ ∀ p H',Same H H'->H' p=some (.tup (xs++ys))->Q (.ref p) H'
theorem op_catA:OpR X (binaryOp .Add) rCatA:=by
 intro pins s σ H x y v u Q I rx ry h;obtain⟨a,b,xs,ys,rfl,rfl,ha,hb,hz,q⟩:=h;by_cases hx:xs=[]
 · subst hx
   cases rx;cases ry;obtain⟨its,r1,p1,_⟩:=I.tuple (SqT.of ha);obtain⟨its2,r2,p2,_⟩:=I.tuple (SqT.of hb);obtain⟨⟨cls,dd,data,sl⟩,ho,hc,n,hd⟩:=id p1;obtain⟨⟨cls2,dd2,data2,sl2⟩,ho2,hc2,n2,hd2⟩:=id p2;simp only at hc hd hc2 hd2;subst hc hd hc2 hd2;have e1:its=[]:=r1.nil_iff.mpr rfl;subst e1;exact concat_meets ⟨_,ho,rfl⟩ ⟨_,ho2,rfl⟩ noFill_tuple_add seq_tuple_add PySem.F.slot_tuple_add PySem.F.entry_tuple_add (PySem.F.args_tuple_add_2 _ _)
    (tuple_addW0 a b [].toArray its2.toArray n n2 dd dd2 sl sl2 (by simp)) ⟨ho,ho2,⟨.ref b,H,I,rfl,q b H (fun _ _ e=>e) hb⟩⟩
 exact op_catT pins s σ H _ _ v u Q I rx ry ⟨a,b,xs,ys,rfl,rfl,SqT.of ha,SqT.of hb,hx,hz,fun e=>q a H (fun _ _ e=>e) (by rw[e,List.append_nil];exact ha),fun _ p hp=>q p _ (Same.new hp) upd_same⟩
noncomputable def rMulB:R2:=rI (fun i j=>IntMulOk i j) fun i j=>.int (i*j)
theorem op_mulB:OpR X (binaryOp .Mult) rMulB:=opI fun _ _ _ _ _ _ _ hc q=>mul_int q hc
end
inductive Thing where
 | put (k w:Int) (t:Option Int)
 | look (k:Int) (t:Option Int)
 | cut (k:Int) (t:Option Int)
 | step (c b:Int) (ps:MRow)
noncomputable def ThV(H:Hp)(v:V):Thing->Prop
 | .put k w t=>∃ u,v=.ref u/\H u=some (.tup [.str "put",.int k,.int w,oV t])
 | .look k t=>∃ u,v=.ref u/\H u=some (.tup [.str "look",.int k,oV t])
 | .cut k t=>∃ u,v=.ref u/\H u=some (.tup [.str "cut",.int k,oV t])
 | .step c b ps=>∃ u q xs,v=.ref u/\H u=some (.tup [.str "step",.int c,.int b,.ref q])/\H q=some (.tup xs)/\Prs H xs ps
noncomputable abbrev ThVs(H:Hp)(xs:List V)(ths:List Thing):Prop:=Paired (ThV H) xs ths
noncomputable def TK(H H':Hp):Prop:=∀ a xs,H a=some (.tup xs)->H' a=some (.tup xs)
theorem Same.tk{H H':Hp}(s:Same H H'):TK H H':=fun a xs e=>s a _ e
theorem KeepBut.tk{p:Addr}{H H':Hp}{xs:List V}(s:KeepBut p H H')(hp:H p=some (.lst xs)):TK H H':=fun a ys e=>s a _ (ne_of e hp (by intro z;cases z)) e
theorem Fr.tk{F:Addr->Prop}{H H':Hp}(s:Fr F H H')(h:∀ b xs,F b->H b≠some (.tup xs)):TK H H':=fun a xs e=>s a _ (fun f=>h a xs f e) e
theorem ThV.keep{H H':Hp}{v:V}{th:Thing}(h:ThV H v th)(k:TK H H'):ThV H' v th:=by
 cases th with
 | put a b c=>obtain⟨u,e,h⟩:=h;exact⟨u,e,k _ _ h⟩
 | look a b=>obtain⟨u,e,h⟩:=h;exact⟨u,e,k _ _ h⟩
 | cut a b=>obtain⟨u,e,h⟩:=h;exact⟨u,e,k _ _ h⟩
 | step a b c=>obtain⟨u,q,xs,e,h,h1,h2⟩:=h;exact⟨u,q,xs,e,k _ _ h,k _ _ h1,h2.keep k⟩
theorem ThVs.keep{H H':Hp}{xs:List V}{ths:List Thing}(h:ThVs H xs ths)(k:TK H H'):ThVs H' xs ths:=Paired.mapP h fun _ _ z=>z.keep k
theorem paired_len{α β:Type}{F:α -> β -> Prop}:∀{xs:List α}{ys:List β},Paired F xs ys->xs.length=ys.length
 | _,_,.nil=>rfl
 | _,_,.cons _ t=>by rw[List.length_cons,List.length_cons,paired_len t]
theorem paired_get{α β:Type}{F:α -> β -> Prop}:∀{xs:List α}{ys:List β}{i:Nat}{v:α},Paired F xs ys->xs[i]?=some v -> ∃ d,ys[i]?=some d/\F v d
 | _,_,_,_,.nil,h=>by simp at h
 | _,_,0,v,.cons (b:=b) hd _,g=>by
   simp at g;subst g;exact⟨b,rfl,hd⟩
 | _,_,i+1,v,.cons _ t,g=>by
   obtain⟨d,e,h⟩:=paired_get (i:=i) t (by simpa using g)
   exact⟨d,by simpa using e,h⟩
theorem paired_take{α β:Type}{F:α -> β -> Prop}:∀{xs:List α}{ys:List β} (n:Nat),Paired F xs ys->Paired F (xs.take n) (ys.take n)
 | _,_,_,.nil=>by rw[List.take_nil,List.take_nil];exact .nil
 | _,_,0,.cons _ _=>.nil
 | _,_,n+1,.cons h t=>.cons h (paired_take n t)
theorem paired_drop{α β:Type}{F:α -> β -> Prop}:∀{xs:List α}{ys:List β} (n:Nat),Paired F xs ys->Paired F (xs.drop n) (ys.drop n)
 | _,_,_,.nil=>by rw[List.drop_nil,List.drop_nil];exact .nil
 | _,_,0,.cons h t=>.cons h t
 | _,_,n+1,.cons _ t=>paired_drop n t
theorem paired_append{α β:Type}{F:α -> β -> Prop}{xs2:List α}{ys2:List β}(g:Paired F xs2 ys2):∀{xs:List α}{ys:List β},Paired F xs ys->Paired F (xs++xs2) (ys++ys2)
 | _,_,.nil=>g
 | _,_,.cons h t=>.cons h (paired_append g t)
noncomputable def mayF(b c:Int):Bool:=decide (b=0) || (decide (0<=b/\b<=65535) && decide (c < b))
noncomputable def hasAll(w ps:MRow):Bool:=decide (nDist (ps.map (·.1))=ps.length) && ps.all fun p=>decide (rLook w p.1=some p.2)
structure LS where
 w:MRow
 c:Int
 o:MRow
noncomputable def cutAll(o ps:MRow):MRow:=ps.foldl (fun o p=>rCut o p.1) o
noncomputable def stepOk(L:LS)(c b:Int)(ps:MRow):Bool:=decide (c=L.c) && mayF b c && hasAll L.w ps
noncomputable def owe(L:LS)(c:Int)(ps:MRow):MRow:=cutAll (if c=0 then L.w else L.o) ps
noncomputable def nextL(L:LS):Thing->LS
 | .put k w _=>⟨rPut L.w k w,L.c,L.o⟩
 | .look _ _=>L
 | .cut k _=>⟨rCut L.w k,L.c,rCut L.o k⟩
 | .step c b ps=>if stepOk L c b ps=true then⟨L.w,b,owe L c ps⟩else L
noncomputable def agr(L:LS):Thing->Bool
 | .put k _ t=>decide (t=rLook L.w k)
 | .look k t=>decide (t=rLook L.w k)
 | .cut k t=>decide (t=rLook L.w k)
 | .step c b ps=>stepOk L c b ps && (decide (b≠0) || (owe L c ps).isEmpty)
noncomputable def fw:LS->List Thing->Option Nat
 | _,[]=>none
 | L,t::ts=>if agr L t=true then(fw (nextL L t) ts).map (· + 1)else some 0
noncomputable def L0:LS:=⟨[],0,[]⟩
noncomputable def oN:Option Nat->V
 | none=>.non
 | some n=>.int n
noncomputable def Fit:Thing->Prop
 | .step _ _ ps=>ps.length<=1000
 | _=>True
theorem oV_inj{a b:Option Int}:decide (oV a=oV b)=decide (a=b):=by
 cases a <;> cases b <;> simp[oV]
theorem oV_scal(a b:Option Int):scal (oV a) (oV b)=true:=by cases a <;> cases b <;> rfl
theorem cutAll_filter:∀(ps o:MRow),cutAll o ps=o.filter fun p=>decide (p.1∉ps.map (·.1))
 | [],o=>by
   show o=_;rw[List.filter_eq_self.mpr];intro p _;simp
 | q::ps,o=>by
   show cutAll (rCut o q.1) ps=_;rw[cutAll_filter ps,rCut,List.filter_filter]
   congr 1
   funext p
   simp only[List.map_cons,List.mem_cons,not_or];by_cases h1:p.1=q.1 <;> by_cases h2:p.1∈ps.map (·.1) <;> simp[h1,h2]
theorem cutAll_snoc(o ps:MRow)(q:Int×Int):cutAll o (ps++[q])=rCut (cutAll o ps) q.1:=by
 unfold cutAll;rw[List.foldl_append]
 rfl
theorem rCut_le(o:MRow)(k:Int):(rCut o k).length<=o.length:=List.length_filter_le ..
theorem dd_len:∀(ns acc:List Int),(ns.foldl step_dedup acc).length<=acc.length+ns.length
 | [],acc=>Nat.le_refl _
 | n::ns,acc=>by
   have:=dd_len ns (step_dedup acc n);rw[List.foldl_cons,List.length_cons];have:(step_dedup acc n).length<=acc.length+1:=by unfold step_dedup;split <;> simp
   omega
theorem dd_iff:∀(ns acc:List Int),(ns.foldl step_dedup acc).length=acc.length+ns.length ↔ (ns.Nodup /\ ∀ n∈ns,n∉acc)
 | [],acc=>by simp
 | n::ns,acc=>by
   rw[List.foldl_cons];by_cases h:n∈acc
   · have e:step_dedup acc n=acc:=by
      unfold step_dedup;rw[if_pos]
      simpa using h
     rw[e];have:=dd_len ns acc
     constructor
     · intro z
       rw[List.length_cons]at z;omega
     intro z;exact absurd h (z.2 n (List.mem_cons_self ..))
   have e:step_dedup acc n=acc++[n]:=by
    unfold step_dedup;rw[if_neg]
    simpa using h
   rw[e];have ih:=dd_iff ns (acc++[n]);rw[List.length_append,List.length_singleton]at ih;rw[List.length_cons,show acc.length+(ns.length+1)=acc.length+1+ns.length by omega,ih,List.nodup_cons]
   constructor
   · rintro⟨a,b⟩
     refine⟨⟨fun z=>(b n z) (by simp),a⟩,fun m hm=>?_⟩
     rcases List.mem_cons.mp hm with rfl | hm
     · exact h
     exact fun z=>b m hm (by simp[z])
   rintro⟨⟨a,b⟩,c⟩;refine⟨b,fun m hm z=>?_⟩;rcases List.mem_append.mp z with z | z
   · exact c m (List.mem_cons_of_mem _ hm) z
   rw[List.mem_singleton]at z;subst z;exact a hm
theorem range_getD(ns:List Int):(List.range ns.length).map (fun i=>ns.getD i 0)=ns:=by
 apply List.ext_getElem?
 intro i;rw[List.getElem?_map];by_cases h:i < ns.length
 · simp[h]
 simp[h]
theorem nDist_iff(ns:List Int):nDist ns=ns.length ↔ ns.Nodup:=by
 unfold nDist firstMet;rw[range_getD];have:=dd_iff ns []
 simpa using this
theorem fw_lt:∀(ts:List Thing) (L:LS) (n:Nat),fw L ts=some n->n < ts.length
 | [],_,_,h=>by cases h
 | t::ts,L,n,h=>by
   unfold fw at h;by_cases e:agr L t=true
   · rw[if_pos e]at h
     cases g:fw (nextL L t) ts with
     | none=>rw[g]at h;cases h
     | some m=>
       rw[g]at h;have:=fw_lt ts _ m g;cases h;show m+1 < ts.length+1;omega
   rw[if_neg e]at h;cases h;exact Nat.zero_lt_succ _
theorem fw_take:∀(ts:List Thing) (L:LS) (m:Nat),fw L (ts.take m)=match fw L ts with | none=>none | some n=>if m<=n then none else some n
 | [],L,m=>by rw[List.take_nil];rfl
 | t::ts,L,0=>by
   show none=_;cases h:fw L (t::ts)with
   | none=>rfl
   | some n=>exact(if_pos (Nat.zero_le _)).symm
 | t::ts,L,m+1=>by
   rw[List.take_succ_cons];unfold fw;by_cases e:agr L t=true
   · rw[if_pos e,if_pos e,fw_take ts (nextL L t) m]
     cases g:fw (nextL L t) ts with
     | none=>rfl
     | some n=>
       show Option.map (· + 1) (if m<=n then none else some n)=if m+1<=n+1 then none else some (n+1);by_cases h:m<=n
       · rw[if_pos h,if_pos (by omega)];rfl
       rw[if_neg h,if_neg (by omega)];rfl
   rw[if_neg e,if_neg e];exact(if_neg (by omega)).symm
noncomputable def runL(L:LS):List Thing->LS
 | []=>L
 | t::ts=>runL (nextL L t) ts
theorem fw_none_append:∀(ts us:List Thing) (L:LS),fw L ts=none->fw L (ts++us)=(fw (runL L ts) us).map (· + ts.length)
 | [],us,L,_=>by
   show fw L us=(fw L us).map (· + 0);cases fw L us <;> rfl
 | t::ts,us,L,h=>by
   unfold fw at h;by_cases e:agr L t=true
   · rw[if_pos e]at h
     have g:fw (nextL L t) ts=none:=by
      cases g:fw (nextL L t) ts with
      | none=>rfl
      | some m=>rw[g]at h;cases h
     rw[List.cons_append];show(if agr L t=true then(fw (nextL L t) (ts++us)).map (· + 1)else some 0)=_;rw[if_pos e,fw_none_append ts us _ g];show _=(fw (runL (nextL L t) ts) us).map (· + (ts.length+1));cases fw (runL (nextL L t) ts) us with
     | none=>rfl
     | some n=>show some (n+ts.length+1)=some (n+(ts.length+1));congr 1
   rw[if_neg e]at h;cases h
theorem runL_append:∀(ts us:List Thing) (L:LS),runL L (ts++us)=runL (runL L ts) us
 | [],_,_=>rfl
 | _::ts,us,L=>runL_append ts us _
end SW
namespace SW
open PySem PySem.Spec PyProof.Rows L2
namespace B
theorem dget{X:Cx}{o i:Expr}{td ty:TE}{pos:Pos}(hu:X.A.units+1 < cLine)(ho:Bx (PE X o td))(hi:Bx (PE X i ty))(hs:NoSl i:=by exact fun _ _=>rfl):Bx (PE X (.Subscript o i pos) (tDGet td ty)):=⟨pe_dget hu ho.out hi.out hs⟩
theorem make0{X:Cx}{C:Addr}{x:Str}{k:Nat}{ps:List Str}{sp:Sp}{p pos:Pos}(M:Mkr X.prog X.w X.K X.mg X.base C x k ps sp)(hr:Room (k+1) X.A)(hg:Gl X x:=by rfl)(hdb:(x == ("__debug__":Str))=false:=by decide) :
 Bx (PE X (.Call (.Name x p) [] [] pos) (tMake C sp [] E0 tNil)):=by
 obtain⟨f,fd,G,M,hm,b⟩:=M.ex;exact⟨pe_make0 M G hr hg hm b .nil pass0 hdb⟩
end B
theorem wDGet{σ:L2.St}{H:Hp}{Q:VK}{td ty:TE}(h:td σ H fun x H1=>ty σ H1 fun y H2=>∃ a v,x=.ref a/\DGet H2 a y (some v)/\Q v H2):tDGet td ty σ H Q:=h
noncomputable def Pot(H:Hp)(p:Addr):Prop:=∃ a b c:Int,H p=some (.lst [.int a,.int b,.int c])
theorem Pot.same{H H':Hp}{p:Addr}(r:Pot H p)(s:Same H H'):Pot H' p:=by
 obtain⟨a,b,c,h⟩:=r;exact⟨a,b,c,s _ _ h⟩
theorem Pot.new{H:Hp}{p q:Addr}{o:HO}(r:Pot H p)(h:H q=none):Pot (upd H q o) p:=r.same (Same.new h)
theorem Pot.ne0{H:Hp}{p q:Addr}(r:Pot H p)(h:H q=none):p≠q:=by
 obtain⟨a,b,c,e⟩:=r;exact ne_of_none e h
theorem Pot.tk{H H':Hp}{p:Addr}(r:Pot H p)(k:KeepBut p H H'):TK H H':=by
 obtain⟨a,b,c,e⟩:=r;exact k.tk e
noncomputable def spMixedP:Sp:=fun vs H Q _=>∃ c k:Int,vs=[.int c,.int k] /\ ∀ r:Int,Q (.int r) H
noncomputable def spPotP:Sp:=fun vs H Q _=>∃ c:Int,vs=[.int c] /\ ∀ p H',H p=none->Same H H'->Pot H' p->Q (.ref p) H'
noncomputable def spTakeP:Sp:=fun vs H Q _=>∃(p:Addr) (m:Int),vs=[.ref p,.int m]/\0 < m/\m < 18446744073709551616/\Pot H p /\ ∀ r H',0<=r->r < m->Pot H' p->KeepBut p H H'->Q (.int r) H'
noncomputable def spWorthP:Sp:=fun vs H Q _=>∃ p:Addr,vs=[.ref p]/\Pot H p /\ ∀(z:Int) H',Pot H' p->KeepBut p H H'->Q (.int z) H'
section
variable{H:Hp}{Q:VK}{E:XK}{p:Addr}
theorem wMixedP{c k:Int}(h:∀ r:Int,Q (.int r) H):spMixedP ([.int c,.int k]++[]) H Q E:=⟨c,k,rfl,h⟩
theorem wPotP{c:Int}(k:∀ p H',H p=none->Same H H'->Pot H' p->Q (.ref p) H'):spPotP ([.int c]++[]) H Q E:=⟨c,rfl,k⟩
theorem wTakeP{m:Int}(hp:Pot H p)(h0:0 < m)(h1:m < 18446744073709551616)(k:∀ r H',0<=r->r < m->Pot H' p->KeepBut p H H'->Q (.int r) H'):spTakeP ([.ref p,.int m]++[]) H Q E:=⟨p,m,rfl,h0,h1,hp,k⟩
theorem wWorthP(hp:Pot H p)(k:∀(z:Int) H',Pot H' p->KeepBut p H H'->Q (.int z) H'):spWorthP ([.ref p]++[]) H Q E:=⟨p,rfl,hp,k⟩
end
structure LsX(C:Addr)(H:Hp)(p:Addr)(L:LS)(wa oa:Addr):Prop where
 ob:∃ dx,H p=some (.ins C dx [("worths",.ref wa),("cursor",.int L.c),("owed",.ref oa)])
 hw:H wa=some (.dK (kvs L.w))
 ho:H oa=some (.dK (kvs L.o))
 kw:ROk L.w
 ko:ROk L.o
 ne:wa≠oa
noncomputable def fp(p wa oa:Addr):Addr->Prop:=fun b=>b=p∨b=wa∨b=oa
theorem LsX.same{C:Addr}{H H':Hp}{p:Addr}{L:LS}{wa oa:Addr}(X:LsX C H p L wa oa)(s:Same H H'):LsX C H' p L wa oa:=
 ⟨let⟨dx,e⟩:=X.ob;⟨dx,s _ _ e⟩,s _ _ X.hw,s _ _ X.ho,X.kw,X.ko,X.ne⟩
theorem LsX.tk{C:Addr}{H H':Hp}{p:Addr}{L:LS}{wa oa:Addr}(X:LsX C H p L wa oa)(s:Fr (fp p wa oa) H H'):TK H H':=s.tk fun b xs f e=>by
 obtain⟨dx,e1⟩:=X.ob;rcases f with rfl | rfl | rfl
 · rw[e1]at e;cases e
 · rw[X.hw]at e;cases e
 rw[X.ho]at e;cases e
noncomputable def spLInit(C:Addr):Sp:=fun vs H Q _=>∃(x dx:Addr),vs=[.ref x]/\H x=some (.ins C dx []) /\ ∀ H' wa oa,LsX C H' x L0 wa oa->H wa=none->H oa=none->(∀ b o,b≠x->H b=some o->H' b=some o)->Q .non H'
noncomputable def spMayF:Sp:=fun vs H Q _=>∃ b c:Int,vs=[.int b,.int c]/\Q (.bl (mayF b c)) H
noncomputable def spHasAll(C:Addr):Sp:=fun vs H Q _=>∃(p q wa oa:Addr) (L:LS) (xs:List V) (ps:MRow),vs=[.ref p,.ref q]/\LsX C H p L wa oa/\H q=some (.tup xs)/\Prs H xs ps/\ps.length<=1000 /\ ∀ H',Same H H'->Q (.bl (hasAll L.w ps)) H'
noncomputable def spStepA(C:Addr):Sp:=fun vs H Q _=>∃(p q wa oa:Addr) (c b:Int) (L:LS) (xs:List V) (ps:MRow),vs=[.ref p,.int c,.int b,.ref q]/\LsX C H p L wa oa/\H q=some (.tup xs)/\Prs H xs ps/\ps.length<=1000/\L.w.length<=1000 /\
 ∀ H' oa',LsX C H' p (nextL L (.step c b ps)) wa oa'->(oa'=oa∨H oa'=none)->Fr (fp p wa oa) H H'->Q (.bl (agr L (.step c b ps))) H'
noncomputable def isDeed:Thing->Bool
 | .step _ _ _=>false
 | _=>true
noncomputable def spDeedA(C:Addr):Sp:=fun vs H Q _=>∃(p wa oa:Addr) (v:V) (L:LS) (th:Thing),vs=[.ref p,v]/\LsX C H p L wa oa/\ThV H v th/\isDeed th=true/\L.w.length<=1000 /\
 ∀ H' oa',LsX C H' p (nextL L th) wa oa'->(oa'=oa∨H oa'=none)->Fr (fp p wa oa) H H'->Q (.bl (agr L th)) H'
noncomputable def spAgrees(C:Addr):Sp:=fun vs H Q _=>∃(p wa oa:Addr) (v:V) (L:LS) (th:Thing),vs=[.ref p,v]/\LsX C H p L wa oa/\ThV H v th/\Fit th/\L.w.length<=1000 /\
 ∀ H' oa',LsX C H' p (nextL L th) wa oa'->(oa'=oa∨H oa'=none)->Fr (fp p wa oa) H H'->Q (.bl (agr L th)) H'
noncomputable def spFW:Sp:=fun vs H Q _=>∃(s:Addr) (xs:List V) (ths:List Thing),vs=[.ref s]/\H s=some (.lst xs)/\ThVs H xs ths/\ths.length<=500/\(∀ t∈ths,Fit t) /\ ∀ H',Same H H'->Q (oN (fw L0 ths)) H'
section
variable{C:Addr}{H:Hp}{Q:VK}{E:XK}{p wa oa:Addr}{L:LS}
theorem wMayF{b c:Int}(q:Q (.bl (mayF b c)) H):spMayF ([.int b,.int c]++[]) H Q E:=⟨b,c,rfl,q⟩
theorem wHasAll{q:Addr}{xs:List V}{ps:MRow}(X:LsX C H p L wa oa)(h1:H q=some (.tup xs))(h2:Prs H xs ps)(h3:ps.length<=1000)(k:∀ H',Same H H'->Q (.bl (hasAll L.w ps)) H'):spHasAll C (V.ref p::([V.ref q]++[])) H Q E:=⟨p,q,wa,oa,L,xs,ps,rfl,X,h1,h2,h3,k⟩
theorem wStepA{q:Addr}{c b:Int}{xs:List V}{ps:MRow}(X:LsX C H p L wa oa)(h1:H q=some (.tup xs))(h2:Prs H xs ps)(h3:ps.length<=1000)(h4:L.w.length<=1000)(k:∀ H' oa',LsX C H' p (nextL L (.step c b ps)) wa oa'->(oa'=oa∨H oa'=none)->Fr (fp p wa oa) H H'->Q (.bl (agr L (.step c b ps))) H') :
 spStepA C (V.ref p::([V.int c,V.int b,V.ref q]++[])) H Q E:=⟨p,q,wa,oa,c,b,L,xs,ps,rfl,X,h1,h2,h3,h4,k⟩
theorem wDeedA{v:V}{th:Thing}(X:LsX C H p L wa oa)(h1:ThV H v th)(h2:isDeed th=true)(h4:L.w.length<=1000)(k:∀ H' oa',LsX C H' p (nextL L th) wa oa'->(oa'=oa∨H oa'=none)->Fr (fp p wa oa) H H'->Q (.bl (agr L th)) H'):spDeedA C (V.ref p::([v]++[])) H Q E:=⟨p,wa,oa,v,L,th,rfl,X,h1,h2,h4,k⟩
theorem wAgrees{v:V}{th:Thing}(X:LsX C H p L wa oa)(h1:ThV H v th)(h2:Fit th)(h4:L.w.length<=1000)(k:∀ H' oa',LsX C H' p (nextL L th) wa oa'->(oa'=oa∨H oa'=none)->Fr (fp p wa oa) H H'->Q (.bl (agr L th)) H'):spAgrees C (V.ref p::([v]++[])) H Q E:=⟨p,wa,oa,v,L,th,rfl,X,h1,h2,h4,k⟩
theorem wFW{s:Addr}{xs:List V}{ths:List Thing}(h1:H s=some (.lst xs))(h2:ThVs H xs ths)(h3:ths.length<=500)(h4:∀ t∈ths,Fit t)(k:∀ H',Same H H'->Q (oN (fw L0 ths)) H'):spFW ([.ref s]++[]) H Q E:=⟨s,xs,ths,rfl,h1,h2,h3,h4,k⟩
end
theorem next_len(L:LS)(t:Thing):(nextL L t).w.length<=L.w.length+1:=by
 cases t with
 | put k w t=>show(rPut L.w k w).length<=_;rw[rPut_len];split <;> omega
 | look k t=>exact Nat.le_succ _
 | cut k t=>exact Nat.le_succ_of_le (rCut_le _ _)
 | step c b ps=>show(if stepOk L c b ps=true then(⟨L.w,b,owe L c ps⟩:LS)else L).w.length<=_;split <;> exact Nat.le_succ _
section
variable{C:Addr}{H H':Hp}{p:Addr}{L:LS}{wa oa:Addr}
theorem LsX.npw(X:LsX C H p L wa oa):p≠wa:=let⟨_,e⟩:=X.ob;ne_of e X.hw (by intro z;cases z)
theorem LsX.npo(X:LsX C H p L wa oa):p≠oa:=let⟨_,e⟩:=X.ob;ne_of e X.ho (by intro z;cases z)
theorem LsX.setw{r:MRow}(X:LsX C H p L wa oa)(ok:ROk r):LsX C (upd H wa (.dK (kvs r))) p ⟨r,L.c,L.o⟩ wa oa:=
 ⟨let⟨dx,e⟩:=X.ob;⟨dx,by rw[upd_ne X.npw];exact e⟩,upd_same,by rw[upd_ne X.ne.symm];exact X.ho,ok,X.ko,X.ne⟩
theorem LsX.seto{r:MRow}(X:LsX C H p L wa oa)(ok:ROk r):LsX C (upd H oa (.dK (kvs r))) p ⟨L.w,L.c,r⟩ wa oa:=
 ⟨let⟨dx,e⟩:=X.ob;⟨dx,by rw[upd_ne X.npo];exact e⟩,by rw[upd_ne X.ne];exact X.hw,upd_same,X.kw,ok,X.ne⟩
theorem Fr.updw{r:HO}(X:LsX C H p L wa oa):Fr (fp p wa oa) H (upd H wa r):=fun b o n e=>by rw[upd_ne fun z=>n (.inr (.inl z))];exact e
theorem Fr.updo{r:HO}(X:LsX C H p L wa oa):Fr (fp p wa oa) H (upd H oa r):=fun b o n e=>by rw[upd_ne fun z=>n (.inr (.inr z))];exact e
theorem str_ne{a b:PySem.Str}(h:(a == b)=false):¬ V.str a=V.str b:=fun z=>by
 injection z with z;rw[z]at h;exact absurd (beq_self_eq_true b) (by rw[h];exact Bool.false_ne_true)
end
theorem pop_any{H:Hp}{a:Addr}{r:MRow}{k:Int}{Qf:V->Hp->Prop}(h:H a=some (.dK (kvs r)))(q:∀ H',H'=upd H a (.dK (kvs (rCut r k))) -> ∀ v,Qf v H') :
 ∃ kvs' k',H a=some (.dK kvs')/\V.int k=kV k'/\(∀ v,valV kvs' k'=some v->Qf v (upd H a (.dK (dropK kvs' k'))))/\(valV kvs' k'=none->Qf .non H):=by
 refine⟨kvs r,Sum.inl k,h,rfl,fun v _=>by rw[dropK_kvs];exact q _ rfl v,fun e=>?_⟩
 rw[valV_kvs]at e;have e':rLook r k=none:=by cases z:rLook r k with | none=>rfl | some y=>rw[z]at e;cases e
 have ec:rCut r k=r:=rCut_no ((rLook_none_iff k).mp e');refine q H ?_ _;rw[ec]
 funext b
 by_cases z:b=a
 · subst z;rw[upd_same];exact h
 rw[upd_ne z]
theorem mul_lit:IntMulOk (10 ^ Int.toNat 50) (10 ^ Int.toNat 50):=IntMulOk.of_bits (by decide +kernel) (by decide +kernel)
theorem mul_lit2:IntMulOk (10 ^ Int.toNat 50*10 ^ Int.toNat 50) (10 ^ Int.toNat 50):=IntMulOk.of_bits (by decide +kernel) (by decide +kernel)
end SW
namespace SW
open PySem PySem.Spec PyProof.Rows L2
section
variable{X:Cx}{scope:Scope}{cl:List (Str×Addr)}{os:List Str}{js:List Nat}{N':List Str}{elt tgt iter:Expr}{ifs:List Expr}{pos:Pos}{wi:TI}{gt:TG}{tt:TT}{te:TE}
end
namespace B
end B
section
variable{X:Cx}{pins:List (Addr×Obj)}{σ:L2.St}{H:Hp}{s:Shared}
end
section
variable{a D:Addr}{o:Obj}{kvs:List (Key×V)}{σ0:L2.St}{H1:Hp}{tt:TT}{te:TE}
end
section
variable{K:W.Frag}{H:Hp}
end
namespace B
end B
namespace B
theorem compSetIf{X:Cx}{scope:Scope}{cl:List (Str×Addr)}{x:Str}{px pos:Pos}{elt iter c:Expr}{wi:TI}{tc:TT}{te:TE}(i:Nat)(js:List Nat)(N':List Str){y:Str}{py spos:Pos}(S:CompScope X scope cl x js N')(nd:N'.Nodup)(hN:X.N.Nodup)(hi:Bx (PI X (.Name x px) iter wi))(hcc:∀ s H fp pins,Bx (PT (compCx X scope cl N' s H fp pins) c tc))(he:∀ s H fp pins,Bx (PE (compCx X scope cl N' s H fp pins) elt te))(hc:X.calm=true:=by rfl)
 (hy:X.N[i]?=some y:=by rfl) (hl:Loc X.env.scope y:=by first | exact Or.inl rfl | exact Or.inr rfl) (hf:X.fn y=true∨X.env.scope.names.lookup y=some .local:=by first | exact .inl rfl | exact .inr rfl)
 (hsw:swapsWith (.ListComp elt [⟨.Name x px,iter,[c],0⟩] scope pos) (some (.Name y py)) spos.line X.env=pure true:=by rfl)
 (hs:∀ x,foldedSetIterable iter X.env x=pure x:=by intro _;rfl):Bx (PS X (.Assign [.Name y py] (.ListComp elt [⟨.Name x px,iter,[c],0⟩] scope pos) spos) (tCompSet i (tComp js wi tc te))):=
 ⟨ps_compSet S nd hc hi.out (fun s H fp pins=>pts_one (hcc s H fp pins).out) (fun s H fp pins=>(he s H fp pins).out) hN hy hl hf hsw hs⟩
end B
end SW
namespace SW
open PySem PySem.Spec PyProof.Rows L2
section
variable{X:Cx}{elts:List Expr}{k:Nat}{tp:Pos}
end
end SW
namespace SW
open PySem PySem.Spec PyProof.Rows L2
section
variable{prog:Program}{w:World}{A:Around}{E:Value->Shared->Prop}{s:Shared}
end
section
variable{X:Cx}
end
section
variable{X:Cx}
end
section
variable{X:Cx}
end
section
variable{X:Cx}
end
namespace B
end B
theorem take_snocF{α:Type}{xs:List α}{i:Nat}{v:α}(h:xs[i]?=some v):xs.take (i+1)=xs.take i++[v]:=by rw[List.take_add_one,h];rfl
section
variable{X:Cx}
end
section
variable{X:Cx}
end
section
variable{t:Addr}{pc:Int}{ve:V}{mv:Int}{qn sp:Addr}
end
section
variable{H H':Hp}{md t sp qn qe:Addr}{ve:V}{f m:Int}{pc:Nat}{M:MT}{ss:Spots}{lsN lsE:List Addr}{F G:Addr->Prop}
end
section
variable{H H' H3:Hp}{md t sp qn qe q:Addr}{ve:V}{f m:Int}{pc:Nat}{M:MT}{ss:Spots}{lsN lsE ls:List Addr}{R:MRows}
end
section
variable{prog:Program}{w:World}{A:Around}{E:Value->Shared->Prop}{s:Shared}
end
section
variable{X:Cx}
end
end SW
set_option maxHeartbeats 4000000
namespace SW
open PySem PySem.Spec PyProof.Rows L2
end SW
set_option maxHeartbeats 4000000
namespace SW
open PySem PySem.Spec PyProof.Rows L2
end SW
set_option maxHeartbeats 2000000
namespace SW
open PySem PySem.Spec PyProof.Rows L2
end SW
set_option maxHeartbeats 2000000
namespace SW
open PySem PySem.Spec PyProof.Rows L2
theorem rLook_in{k v:Int}:∀{r:MRow},ROk r->(k,v)∈r->rLook r k=some v
 | [],_,h=>nomatch h
 | p::r,ok,h=>by
   have nd:p.1∉r.map (·.1)/\ROk r:=List.nodup_cons.mp ok;rcases List.mem_cons.mp h with e | e
   · subst e;exact rLook_pos rfl
   rw[rLook_neg fun z=>nd.1 (z ▸ List.mem_map.mpr ⟨_,e,rfl⟩)];exact rLook_in nd.2 e
section
variable{X:Cx}
end
section
variable{X:Cx}{pins:List (Addr×Obj)}{σ:L2.St}{H:Hp}{s:Shared}
end
section
variable{X:Cx}{pins:List (Addr×Obj)}{σ:L2.St}{H:Hp}{s:Shared}{kS D:Addr}{vs:List Value}{kz:List Int}{keys:Array Value}{e e1:Nat}{A:Around}{E:Value->Shared->Prop}{PP:PySem.Fin->Shared->Prop}
end
section
variable{X:Cx}{pins:List (Addr×Obj)}{σ:L2.St}{H:Hp}{s:Shared}{c P:Addr}{pos:Pos}{qual:Str}{params:Arguments}{body:Expr}{scope:Scope}{firstLine:Nat}{E:Value->Shared->Prop}{Q:Value->Shared->Prop}{A:Around}
end
section
variable{K:W.Frag}{P:Addr}
variable(hP:K.lookup P=some (W.tabObj #[]))
include hP
end
end SW
set_option maxHeartbeats 2000000
namespace SW
open PySem PySem.Spec PyProof.Rows L2
section
variable{C CT P b:Addr}{H H':Hp}{p:Addr}{f m:Int}{pc:Nat}{M:MT}{tc:Int}{F:Addr->Prop}{R:MRows}{pos:Pos}{qual:Str}
end
end SW
set_option maxHeartbeats 2000000
namespace SW
open PySem PySem.Spec PyProof.Rows L2
end SW
set_option maxHeartbeats 2000000
namespace SW
open PySem PySem.Spec PyProof.Rows L2
section
variable{K:W.Frag}{H:Hp}{x y:V}{n:Nat}
end
section
variable{H:Hp}{Q:VK}{E:XK}{p:Addr}
end
section
variable{f m:Int}{pc:Nat}
end
end SW
set_option maxHeartbeats 2000000
namespace SW
open PySem PySem.Spec PyProof.Rows L2
section
variable{K:W.Frag}{H:Hp}
end
end SW
set_option maxHeartbeats 2000000
namespace SW
open PySem PySem.Spec PyProof.Rows L2
end SW
set_option maxHeartbeats 2000000
namespace SW
open PySem PySem.Spec PyProof.Rows L2
end SW
set_option maxHeartbeats 2000000
namespace SW
open PySem PySem.Spec PyProof.Rows L2
section
variable{f m:Int}{M:MT}{cur:Int}
end
end SW
set_option maxHeartbeats 2000000
namespace SW
open PySem PySem.Spec PyProof.Rows L2
end SW
set_option maxHeartbeats 2000000
namespace SW
open PySem PySem.Spec PyProof.Rows L2
section
variable{O:KeyOrd}{ky:Keyed->O.α}
noncomputable def Le(ky:Keyed->O.α)(x y:Keyed):Prop:=O.kle (ky x) (ky y)
noncomputable def Srd(ky:Keyed->O.α)(l:List Keyed):Prop:=l.Pairwise (Le ky)
theorem Le.trans{x y z:Keyed}(a:Le ky x y)(b:Le ky y z):Le ky x z:=KeyOrd.kle_trans a b
theorem Le.of_lt{x y:Keyed}(h:O.blt (ky x) (ky y)=true):Le ky x y:=KeyOrd.kle_of_klt h
theorem Le.of_not{x y:Keyed}(h:O.blt (ky x) (ky y)=false):Le ky y x:=h
theorem Le.rfl'(x:Keyed):Le ky x x:=KeyOrd.kle_refl _
theorem Srd.app{l r:List Keyed}:Srd ky (l++r) ↔ Srd ky l/\Srd ky r /\ ∀ x∈l,∀ y∈r,Le ky x y:=List.pairwise_append
theorem Srd.drop{l:List Keyed}(h:Srd ky l)(i:Nat):Srd ky (l.drop i):=List.Pairwise.sublist (List.drop_sublist _ _) h
theorem Srd.take{l:List Keyed}(h:Srd ky l)(i:Nat):Srd ky (l.take i):=List.Pairwise.sublist (List.take_sublist _ _) h
theorem Srd.get{l:List Keyed}(h:Srd ky l){i j:Nat}{x y:Keyed}(hij:i<=j)(hx:l[i]?=some x)(hy:l[j]?=some y):Le ky x y:=by
 obtain⟨h1,rfl⟩:=List.getElem?_eq_some_iff.mp hx;obtain⟨h2,rfl⟩:=List.getElem?_eq_some_iff.mp hy;rcases Nat.lt_or_eq_of_le hij with z | rfl
 · exact List.pairwise_iff_getElem.mp h i j h1 h2 z
 exact Le.rfl' _
theorem mem_drop_get{l:List Keyed}{i:Nat}{y:Keyed}(h:y∈l.drop i):∃ j,i<=j/\l[j]?=some y:=by
 obtain⟨k,hk⟩:=List.getElem?_of_mem h;rw[List.getElem?_drop]at hk;exact⟨i+k,by omega,hk⟩
theorem mem_take_get{l:List Keyed}{i:Nat}{y:Keyed}(h:y∈l.take i):∃ j,j < i/\l[j]?=some y:=by
 obtain⟨k,hk⟩:=List.getElem?_of_mem h;have hl:=(List.getElem?_eq_some_iff.mp hk).1;rw[List.length_take]at hl;rw[List.getElem?_take_of_lt (by omega)]at hk
 exact⟨k,by omega,hk⟩
structure JL(ky:Keyed->O.α)(a b o:List Keyed)(i j:Nat):Prop where
 pm:o.Perm (a.take i++b.take j)
 so:Srd ky o
 bd:∀ x∈o,∀ y,y∈a.drop i∨y∈b.drop j->Le ky x y
theorem take_add{l:List Keyed}(i k:Nat):l.take (i+k)=l.take i++(l.drop i).take k:=by rw[List.take_add]
theorem JL.a{a b o:List Keyed}{i j:Nat}(J:JL ky a b o i j)(sa:Srd ky a)(k:Nat)(h:∀ x∈(a.drop i).take k,∀ y∈b.drop j,Le ky x y):JL ky a b (o++(a.drop i).take k) (i+k) j:=by
 have sd:=sa.drop i;rw[← List.take_append_drop k (a.drop i)]at sd;obtain⟨s1,s2,s3⟩:=Srd.app.mp sd;refine⟨?_,Srd.app.mpr ⟨J.so,s1,fun x hx y hy=>J.bd x hx y (.inl (List.mem_of_mem_take hy))⟩,fun x hx y hy=>?_⟩
 · rw[take_add]
   refine(J.pm.append_right _).trans ?_;rw[List.append_assoc,List.append_assoc];exact(List.Perm.append_left _ List.perm_append_comm)
 rcases List.mem_append.mp hx with z | z
 · refine J.bd x z y (hy.imp (fun u=>?_) id)
   rw[← List.drop_drop]at u;exact List.mem_of_mem_drop u
 rcases hy with u | u
 · rw[← List.drop_drop]at u
   exact s3 x z y u
 exact h x z y u
theorem JL.b{a b o:List Keyed}{i j:Nat}(J:JL ky a b o i j)(sb:Srd ky b)(k:Nat)(h:∀ x∈(b.drop j).take k,∀ y∈a.drop i,Le ky x y):JL ky a b (o++(b.drop j).take k) i (j+k):=by
 have sd:=sb.drop j;rw[← List.take_append_drop k (b.drop j)]at sd;obtain⟨s1,s2,s3⟩:=Srd.app.mp sd;refine⟨?_,Srd.app.mpr ⟨J.so,s1,fun x hx y hy=>J.bd x hx y (.inr (List.mem_of_mem_take hy))⟩,fun x hx y hy=>?_⟩
 · rw[take_add,← List.append_assoc]
   exact J.pm.append_right _
 rcases List.mem_append.mp hx with z | z
 · refine J.bd x z y (hy.imp id (fun u=>?_))
   rw[← List.drop_drop]at u;exact List.mem_of_mem_drop u
 rcases hy with u | u
 · exact h x z y u
 rw[← List.drop_drop]at u;exact s3 x z y u
noncomputable def Mgd(ky:Keyed->O.α)(a b r:List Keyed):Prop:=r.Perm (a++b)/\Srd ky r
theorem JL.all{a b o:List Keyed}{i j:Nat}(J:JL ky a b o i j):(o++a.drop i++b.drop j).Perm (a++b):=by
 have h1:(o++a.drop i++b.drop j).Perm (a.take i++b.take j++(a.drop i++b.drop j)):=by
  rw[List.append_assoc];exact J.pm.append_right _
 refine h1.trans ?_;have h2:(a.take i++b.take j++(a.drop i++b.drop j)).Perm (a.take i++a.drop i++(b.take j++b.drop j)):=by
  rw[List.append_assoc,List.append_assoc];refine List.Perm.append_left _ ?_;rw[← List.append_assoc,← List.append_assoc];exact List.Perm.append_right _ List.perm_append_comm
 rw[List.take_append_drop,List.take_append_drop]at h2;exact h2
theorem JL.fin1{a b o:List Keyed}{i j:Nat}(J:JL ky a b o i j)(sa:Srd ky a)(sb:Srd ky b)(h:a.length<=i∨b.length<=j):Mgd ky a b (o++a.drop i++b.drop j):=by
 refine⟨J.all,?_⟩;rcases h with h | h
 · rw[List.drop_of_length_le h,List.append_nil]
   exact Srd.app.mpr ⟨J.so,sb.drop j,fun x hx y hy=>J.bd x hx y (.inr hy)⟩
 rw[List.drop_of_length_le h,List.append_nil];exact Srd.app.mpr ⟨J.so,sa.drop i,fun x hx y hy=>J.bd x hx y (.inl hy)⟩
theorem JL.fin2{a b o:List Keyed}{i j:Nat}(J:JL ky a b o i j)(sa:Srd ky a)(sb:Srd ky b)(h:∀ x∈b,∀ y∈a.drop i,Le ky x y):Mgd ky a b (o++b.drop j++a.drop i):=by
 refine⟨List.Perm.trans ?_ J.all,?_⟩
 · rw[List.append_assoc,List.append_assoc]
   exact List.Perm.append_left _ List.perm_append_comm
 refine Srd.app.mpr ⟨Srd.app.mpr ⟨J.so,sb.drop j,fun x hx y hy=>J.bd x hx y (.inr hy)⟩,sa.drop i,fun x hx y hy=>?_⟩;rcases List.mem_append.mp hx with z | z
 · exact J.bd x z y (.inl hy)
 exact h x (List.mem_of_mem_drop z) y hy
theorem drop_one{l:List Keyed}{i:Nat}{x:Keyed}(h:l[i]?=some x):(l.drop i).take 1=[x]:=by
 obtain⟨hi,rfl⟩:=List.getElem?_eq_some_iff.mp h;rw[List.drop_eq_getElem_cons hi]
 rfl
structure JH(ky:Keyed->O.α)(a b o:List Keyed)(i j:Nat):Prop where
 pm:o.Perm (a.drop i++b.drop j)
 so:Srd ky o.reverse
 bd:∀ y∈o,∀ x,x∈a.take i∨x∈b.take j->Le ky x y
theorem drop_sub{l:List Keyed}{i k:Nat}(h:k<=i):l.drop k=(l.take i).drop k++l.drop i:=by
 conv=>lhs;rw[← List.take_append_drop i l]
 by_cases z:i<=l.length
 · rw[List.drop_append_of_le_length (by rw[List.length_take];omega)]
 have e:l.drop i=[]:=List.drop_of_length_le (by omega)
 rw[e,List.append_nil,List.append_nil]
theorem JH.a{a b o:List Keyed}{i j:Nat}(J:JH ky a b o i j)(sa:Srd ky a)(k:Nat)(hk:k<=i)(h:∀ y∈(a.take i).drop k,∀ x∈b.take j,Le ky x y):JH ky a b (o++((a.take i).drop k).reverse) k j:=by
 have sd:=sa.take i;rw[← List.take_append_drop k (a.take i)]at sd;obtain⟨s1,s2,s3⟩:=Srd.app.mp sd;have e:(a.take i).take k=a.take k:=by rw[List.take_take,Nat.min_eq_left hk]
 rw[e]at s1 s3;refine⟨?_,?_,fun y hy x hx=>?_⟩
 · rw[drop_sub (l:=a) hk]
   refine(J.pm.append_right _).trans ?_;refine(List.Perm.append_left _ (List.reverse_perm _)).trans ?_;rw[List.append_assoc];refine List.perm_append_comm.trans ?_;rw[List.append_assoc,List.append_assoc];exact List.perm_append_comm.trans (by rw[List.append_assoc])
 · rw[List.reverse_append,List.reverse_reverse]
   refine Srd.app.mpr ⟨s2,J.so,fun x hx y hy=>J.bd y (List.mem_reverse.mp hy) x (.inl (List.mem_of_mem_drop hx))⟩
 rcases List.mem_append.mp hy with z | z
 · refine J.bd y z x (hx.imp (fun u=>?_) id)
   exact(List.take_sublist_take_left hk).subset u
 rw[List.mem_reverse]at z;rcases hx with u | u
 · exact s3 x u y z
 exact h y z x u
theorem JH.b{a b o:List Keyed}{i j:Nat}(J:JH ky a b o i j)(sb:Srd ky b)(k:Nat)(hk:k<=j)(h:∀ y∈(b.take j).drop k,∀ x∈a.take i,Le ky x y):JH ky a b (o++((b.take j).drop k).reverse) i k:=by
 have sd:=sb.take j;rw[← List.take_append_drop k (b.take j)]at sd;obtain⟨s1,s2,s3⟩:=Srd.app.mp sd;have e:(b.take j).take k=b.take k:=by rw[List.take_take,Nat.min_eq_left hk]
 rw[e]at s1 s3;refine⟨?_,?_,fun y hy x hx=>?_⟩
 · rw[drop_sub (l:=b) hk]
   refine(J.pm.append_right _).trans ?_;refine(List.Perm.append_left _ (List.reverse_perm _)).trans ?_;rw[List.append_assoc];exact List.Perm.append_left _ List.perm_append_comm
 · rw[List.reverse_append,List.reverse_reverse]
   refine Srd.app.mpr ⟨s2,J.so,fun x hx y hy=>J.bd y (List.mem_reverse.mp hy) x (.inr (List.mem_of_mem_drop hx))⟩
 rcases List.mem_append.mp hy with z | z
 · refine J.bd y z x (hx.imp id (fun u=>?_))
   exact(List.take_sublist_take_left hk).subset u
 rw[List.mem_reverse]at z;rcases hx with u | u
 · exact h y z x u
 exact s3 x u y z
theorem JH.all{a b o:List Keyed}{i j:Nat}(J:JH ky a b o i j):(a.take i++b.take j++o.reverse).Perm (a++b):=by
 have h1:(a.take i++b.take j++o.reverse).Perm (a.take i++b.take j++(a.drop i++b.drop j)):=List.Perm.append_left _ ((List.reverse_perm _).trans J.pm);refine h1.trans ?_;have h2:(a.take i++b.take j++(a.drop i++b.drop j)).Perm (a.take i++a.drop i++(b.take j++b.drop j)):=by
  rw[List.append_assoc,List.append_assoc];refine List.Perm.append_left _ ?_;rw[← List.append_assoc,← List.append_assoc];exact List.Perm.append_right _ List.perm_append_comm
 rw[List.take_append_drop,List.take_append_drop]at h2;exact h2
theorem JH.fin1{a b o:List Keyed}{i j:Nat}(J:JH ky a b o i j)(sa:Srd ky a)(sb:Srd ky b)(h:i=0∨j=0):Mgd ky a b (a.take i++b.take j++o.reverse):=by
 refine⟨J.all,?_⟩;rcases h with rfl | rfl
 · rw[List.take_zero,List.nil_append]
   exact Srd.app.mpr ⟨sb.take j,J.so,fun x hx y hy=>J.bd y (List.mem_reverse.mp hy) x (.inr hx)⟩
 rw[List.take_zero,List.append_nil];exact Srd.app.mpr ⟨sa.take i,J.so,fun x hx y hy=>J.bd y (List.mem_reverse.mp hy) x (.inl hx)⟩
theorem JH.fin2{a b o:List Keyed}{i j:Nat}(J:JH ky a b o i j)(sa:Srd ky a)(sb:Srd ky b)(h:∀ x∈b.take j,∀ y∈a,Le ky x y):Mgd ky a b (b.take j++a.take i++o.reverse):=by
 refine⟨List.Perm.trans ?_ J.all,?_⟩
 · exact List.Perm.append_right _ List.perm_append_comm
 refine Srd.app.mpr ⟨Srd.app.mpr ⟨sb.take j,sa.take i,fun x hx y hy=>h x hx y (List.mem_of_mem_take hy)⟩,J.so,fun x hx y hy=>?_⟩;rw[List.mem_reverse]at hy;rcases List.mem_append.mp hx with z | z
 · exact J.bd y hy x (.inr z)
 exact J.bd y hy x (.inl z)
theorem take_one{l:List Keyed}{i:Nat}{x:Keyed}(h:l[i]?=some x):(l.take (i+1)).drop i=[x]:=by
 obtain⟨hi,rfl⟩:=List.getElem?_eq_some_iff.mp h;rw[List.drop_take,List.drop_eq_getElem_cons hi,show i+1 - i=1 by omega]
 rfl
end
section
variable{prog:Program}{w:World}{A:Around}{E:Value->Shared->Prop}{s:Shared}
noncomputable def gallopX:Bool->Keyed->Array Keyed->Nat->Nat->Nat->StateT SortSt Sem (Option Nat):=sortPriv% PySem.Builtin.gallop
theorem gallopX_eq(lf:Bool)(ky:Keyed)(xs:Array Keyed)(b n h:Nat):gallopX lf ky xs b n h=(do
 let bey (i:Nat):StateT SortSt Sem (Option Bool):=do
  let x ← elem' xs (b+i)
  if lf then lt' x ky else return(← lt' ky x).map (!·)
 let mut la:=0
 let mut of:=1
 let mut lo:=0
 let mut hi:=0
 let some rg ← bey h | return none
 if rg then
  let mx:=n - h
  for _ in [0:n] do
   if of ≥ mx then break
   let some mo ← bey (h+of) | return none
   if !mo then break
   la:=of
   of:=2*of+1
  lo:=h+la+1
  hi:=h+min of mx
 else
  let mx:=h+1
  for _ in [0:n] do
   if of ≥ mx then break
   let some fo ← bey (h - of) | return none
   if fo then break
   la:=of
   of:=2*of+1
  lo:=h+1 - min of mx
  hi:=h - la
 for _ in [0:n] do
  if lo ≥ hi then break
  let m:=lo+(hi - lo) / 2
  let some mo ← bey m | return none
  if mo then lo:=m+1 else hi:=m
 return some hi):=rfl
noncomputable abbrev beyX(lf:Bool)(ky:Keyed)(xs:Array Keyed)(i:Nat):StateT SortSt Sem (Option Bool):=do
 let x ← elem' xs i
 if lf=true then lt' x ky else return(← lt' ky x).map (!·)
theorem wpS_bin{n:Nat}{st:SortSt}{p:Nat->Bool}{Q:Option (Option Nat)×Nat×Nat->SortSt->Prop}{f:Nat->Option (Option Nat)×Nat×Nat->StateT SortSt Sem (ForInStep (Option (Option Nat)×Nat×Nat))}{lo hi:Nat}
 (hm:∀ i j,i<=j->j < n->p j=true->p i=true)
 (f0:∀ x l r,l ≥ r->f x (none,l,r)=pure (ForInStep.done (none,l,r)))
 (f1:∀ x l r (Q':ForInStep (Option (Option Nat)×Nat×Nat)->SortSt->Prop),l < r->r<=n->Q' (if p (l+(r - l) / 2)=true then .yield (none,l+(r - l) / 2+1,r)else .yield (none,l,l+(r - l) / 2)) st->wpS (model prog w) A E s (f x (none,l,r)) Q' st)
 (h1:lo<=hi) (h2:hi<=n) (h3:∀ i,i < lo->p i=true) (h4:∀ i,hi<=i->i < n->p i=false)
 (q:∀ k,k<=n->(∀ i,i < k->p i=true)->(∀ i,k<=i->i < n->p i=false)->Q (none,k,k) st) :
 wpS (model prog w) A E s (forIn [:n] ((none,lo,hi):Option (Option Nat)×Nat×Nat) f) Q st:=by
 refine wpS_forRange (I:=fun x c st'=>st'=st /\ ∃ l r,c=(none,l,r)/\l<=r/\r<=n/\r - l<=n - x/\(∀ i,i < l->p i=true)/\(∀ i,r<=i->i < n->p i=false)) ?_ ?_ ⟨rfl,lo,hi,rfl,h1,h2,by omega,h3,h4⟩
 · rintro x c st' _ hx ⟨rfl,l,r,rfl,a1,a2,a3,a4,a5⟩
   by_cases g:l ≥ r
   · rw[f0 x l r g]
     obtain rfl:l=r:=by omega
     exact wpS_pure (q l a2 a4 a5)
   refine f1 x l r _ (by omega) a2 ?_
   cases e:p (l+(r - l) / 2)with
   | true=>exact⟨rfl,l+(r - l) / 2+1,r,rfl,by omega,a2,by omega,fun i hi=>hm i _ (by omega) (by omega) e,a5⟩
   | false=>
     refine⟨rfl,l,l+(r - l) / 2,rfl,by omega,by omega,by omega,a4,fun i hi hn=>?_⟩
     cases e2:p i with
     | false=>rfl
     | true=>rw[hm _ i hi hn e2]at e;cases e
 rintro c st' ⟨rfl,l,r,rfl,a1,a2,a3,a4,a5⟩;obtain rfl:l=r:=by omega
 exact q l a2 a4 a5
theorem wpS_gallop{lf:Bool}{ky:Keyed}{xs:Array Keyed}{b n h:Nat}{st:SortSt}{Q:Option Nat->SortSt->Prop}(p:Nat->Bool)
 (hb:∀ i,i < n -> ∀ Q':Option Bool->SortSt->Prop,Q' (some (p i)) st->wpS (model prog w) A E s (beyX lf ky xs (b+i)) Q' st)
 (hm:∀ i j,i<=j->j < n->p j=true->p i=true) (hh:h < n)
 (q:∀ k,k<=n->(∀ i,i < k->p i=true)->(∀ i,k<=i->i < n->p i=false)->Q (some k) st) :
 wpS (model prog w) A E s (gallopX lf ky xs b n h) Q st:=by
 rw[gallopX_eq]
 dsimp only
 refine wpS_bind (hb h hh _ ?_)
 dsimp only
 cases e:p h with
 | true=>
   rw[if_pos rfl];refine wpS_bind (wpS_mono (wpS_forRange (I:=fun x c st'=>st'=st /\ ∃ la of,c=(none,la,of)/\x+1<=of/\la < of/\h+la < n/\p (h+la)=true)
    (Q:=fun c st'=>st'=st /\ ∃ la of,c=(none,la,of)/\la < of/\h+la < n/\p (h+la)=true/\(of ≥ n - h∨h+of < n/\p (h+of)=false)) ?_ ?_ ⟨rfl,0,1,rfl,by omega,by omega,by omega,e⟩) ?_)
   · rintro x c st' _ hx ⟨rfl,la,of,rfl,a1,a2,a3,a4⟩
     dsimp only
     by_cases g:of ≥ n - h
     · rw[if_pos g]
       exact wpS_pure ⟨rfl,la,of,rfl,a2,a3,a4,.inl g⟩
     rw[if_neg g];refine wpS_bind (hb (h+of) (by omega) _ ?_)
     cases e2:p (h+of)with
     | true=>exact wpS_pure ⟨rfl,of,2*of+1,rfl,by omega,by omega,by omega,e2⟩
     | false=>exact wpS_pure ⟨rfl,la,of,rfl,a2,a3,a4,.inr ⟨by omega,e2⟩⟩
   · rintro c st' ⟨rfl,la,of,rfl,a1,a2,a3,a4⟩
     exact⟨rfl,la,of,rfl,a2,a3,a4,.inl (by omega)⟩
   rintro c st' ⟨rfl,la,of,rfl,a2,a3,a4,a5⟩
   dsimp only
   refine wpS_bind (wpS_bin (p:=p) hm (fun x l r g=>if_pos g) (fun x l r Q' g g2 z=>?_) ?_ (by omega) (fun i hi=>hm i (h+la) (by omega) a3 a4) (fun i hi hn=>?_) fun k k1 k2 k3=>wpS_pure (q k k1 k2 k3))
   · show wpS _ _ _ _ (ite _ _ _) _ _
     rw[if_neg (Nat.not_le.mpr g)];refine wpS_bind (hb (l+(r - l) / 2) (by omega) _ ?_)
     dsimp only
     revert z
     cases p (l+(r - l) / 2) <;> exact fun z=>wpS_pure z
   · rcases a5 with z | ⟨z,_⟩ <;> omega
   rcases a5 with z | ⟨z,y⟩
   · omega
   cases e2:p i with
   | false=>rfl
   | true=>rw[hm (h+of) i (by omega) hn e2]at y;cases y
 | false=>
   rw[if_neg (by simp)]
   refine wpS_bind (wpS_mono (wpS_forRange (I:=fun x c st'=>st'=st /\ ∃ la of,c=(none,la,of)/\x+1<=of/\la < of/\la<=h/\p (h - la)=false)
    (Q:=fun c st'=>st'=st /\ ∃ la of,c=(none,la,of)/\la < of/\la<=h/\p (h - la)=false/\(of ≥ h+1∨of<=h/\p (h - of)=true)) ?_ ?_ ⟨rfl,0,1,rfl,by omega,by omega,by omega,e⟩) ?_)
   · rintro x c st' _ hx ⟨rfl,la,of,rfl,a1,a2,a3,a4⟩
     dsimp only
     by_cases g:of ≥ h+1
     · rw[if_pos g]
       exact wpS_pure ⟨rfl,la,of,rfl,a2,a3,a4,.inl g⟩
     rw[if_neg g];refine wpS_bind (hb (h - of) (by omega) _ ?_)
     cases e2:p (h - of)with
     | false=>exact wpS_pure ⟨rfl,of,2*of+1,rfl,by omega,by omega,by omega,e2⟩
     | true=>exact wpS_pure ⟨rfl,la,of,rfl,a2,a3,a4,.inr ⟨by omega,e2⟩⟩
   · rintro c st' ⟨rfl,la,of,rfl,a1,a2,a3,a4⟩
     exact⟨rfl,la,of,rfl,a2,a3,a4,.inl (by omega)⟩
   rintro c st' ⟨rfl,la,of,rfl,a2,a3,a4,a5⟩
   dsimp only
   refine wpS_bind (wpS_bin (p:=p) hm (fun x l r g=>if_pos g) (fun x l r Q' g g2 z=>?_) (by omega) (by omega) (fun i hi=>?_) (fun i hi hn=>?_) fun k k1 k2 k3=>wpS_pure (q k k1 k2 k3))
   · show wpS _ _ _ _ (ite _ _ _) _ _
     rw[if_neg (Nat.not_le.mpr g)];refine wpS_bind (hb (l+(r - l) / 2) (by omega) _ ?_)
     dsimp only
     revert z
     cases p (l+(r - l) / 2) <;> exact fun z=>wpS_pure z
   · rcases a5 with z | ⟨z,y⟩
     · omega
     exact hm i (h - of) (by omega) (by omega) y
   cases e2:p i with
   | false=>rfl
   | true=>rw[hm (h - la) i hi hn e2]at a4;cases a4
end
end SW
namespace SW
open PySem PySem.Spec PyProof.Rows L2
noncomputable def setGalX:Nat->StateT SortSt Sem Unit:=sortPriv% PySem.Builtin.setMinGallop
theorem setGalX_eq(g:Nat):setGalX g=modify fun z=>SortSt.mk' (kindOf z) (arrOf z) (pendingOf z) g (failedOf z):=rfl
noncomputable abbrev MSt:=Option (Array Keyed)×Array Keyed×Nat×Nat×Nat×Nat×Nat
noncomputable abbrev MS2:=Option (Array Keyed)×Array Keyed×Nat×Nat×Nat×Nat
noncomputable abbrev MS1:=Option (Array Keyed)×Array Keyed×Nat×Nat×Nat
section
variable(p q:Array Keyed)
noncomputable def fin1L(o:Array Keyed)(i j:Nat):Array Keyed:=o++p.extract i p.size++q.extract j q.size
noncomputable def fin2L(o:Array Keyed)(i j:Nat):Array Keyed:=o++q.extract j q.size++p.extract i p.size
noncomputable def loC(o:Array Keyed)(i j mg k l:Nat):StateT SortSt Sem (ForInStep MSt):=do
 let x ← elem' p i
 if(i+1+1 == p.size)=true then pure (.done (some (fin2L p q (o.push x) (i+1) j),o.push x,i+1,j,mg,k,l))
 else if(decide (k < 7) && decide (l < 7))=true then pure (.done (none,o.push x,i+1,j,mg,k,l))else pure (.yield (none,o.push x,i+1,j,mg,k,l))
noncomputable def loB(o:Array Keyed)(i j mg k bc:Nat):StateT SortSt Sem (ForInStep MSt):=do
 let y ← elem' q j
 if(j+1 == q.size)=true then pure (.done (some (fin1L p q (o.push y) i (j+1)),o.push y,i,j+1,mg,k,bc))
 else do
  let v ← elem' p i
  let z ← gallopX true v q (j+1) (q.size - (j+1)) 0
  match z with
  | some l=>
    if l > 0 then
     if(j+1+l == q.size)=true then pure (.done (some (fin1L p q (o.push y++q.extract (j+1) (j+1+l)) i (j+1+l)),o.push y++q.extract (j+1) (j+1+l),i,j+1+l,mg,k,l))
     else loC p q (o.push y++q.extract (j+1) (j+1+l)) i (j+1+l) mg k l
    else loC p q (o.push y) i (j+1) mg k l
  | _=>pure (.done (some (fin1L p q (o.push y) i (j+1)),o.push y,i,j+1,mg,k,bc))
noncomputable def loG(o:Array Keyed)(i j mg ac bc:Nat):StateT SortSt Sem (ForInStep MSt):=do
 setGalX mg
 let y ← elem' q j
 let z ← gallopX false y p i (p.size - i) 0
 match z with
 | some k=>
   if k > 0 then
    if(i+k+1 == p.size)=true then pure (.done (some (fin2L p q (o++p.extract i (i+k)) (i+k) j),o++p.extract i (i+k),i+k,j,mg,k,bc))
    else if(i+k == p.size)=true then pure (.done (some (fin1L p q (o++p.extract i (i+k)) (i+k) j),o++p.extract i (i+k),i+k,j,mg,k,bc))
    else loB p q (o++p.extract i (i+k)) (i+k) j mg k bc
   else loB p q o i j mg k bc
 | _=>pure (.done (some (fin1L p q o i j),o,i,j,mg,ac,bc))
noncomputable def loL(c:MSt):StateT SortSt Sem (ForInStep MSt):=
 if c.2.2.2.2.1 > 1 then loG p q c.2.1 c.2.2.1 c.2.2.2.1 (c.2.2.2.2.1 - 1) c.2.2.2.2.2.1 c.2.2.2.2.2.2 else loG p q c.2.1 c.2.2.1 c.2.2.2.1 c.2.2.2.2.1 c.2.2.2.2.2.1 c.2.2.2.2.2.2
noncomputable def loA(mg:Nat)(c:MS2):StateT SortSt Sem (ForInStep MS2):=do
 let y ← elem' q c.2.2.2.1
 let v ← elem' p c.2.2.1
 let z ← lt' y v
 match z with
 | some bw=>
   if bw=true then do
    let y ← elem' q c.2.2.2.1
    if(c.2.2.2.1+1 == q.size)=true then pure (.done (some (fin1L p q (c.2.1.push y) c.2.2.1 (c.2.2.2.1+1)),c.2.1.push y,c.2.2.1,c.2.2.2.1+1,0,c.2.2.2.2.2+1))
    else if c.2.2.2.2.2+1 ≥ mg then pure (.done (none,c.2.1.push y,c.2.2.1,c.2.2.2.1+1,0,c.2.2.2.2.2+1))else pure (.yield (none,c.2.1.push y,c.2.2.1,c.2.2.2.1+1,0,c.2.2.2.2.2+1))
   else do
    let v ← elem' p c.2.2.1
    if(c.2.2.1+1+1 == p.size)=true then pure (.done (some (fin2L p q (c.2.1.push v) (c.2.2.1+1) c.2.2.2.1),c.2.1.push v,c.2.2.1+1,c.2.2.2.1,c.2.2.2.2.1+1,0))
    else if c.2.2.2.2.1+1 ≥ mg then pure (.done (none,c.2.1.push v,c.2.2.1+1,c.2.2.2.1,c.2.2.2.2.1+1,0))else pure (.yield (none,c.2.1.push v,c.2.2.1+1,c.2.2.2.1,c.2.2.2.2.1+1,0))
 | _=>pure (.done (some (fin1L p q c.2.1 c.2.2.1 c.2.2.2.1),c.2))
noncomputable def loO(c:MS1):StateT SortSt Sem (ForInStep MS1):=do
 let c1 ← forIn [:p.size+q.size] ((none,c.2.1,c.2.2.1,c.2.2.2.1,0,0):MS2) fun _=>loA p q c.2.2.2.2
 match c1.1 with
 | some r=>pure (.done (some r,c1.2.1,c1.2.2.1,c1.2.2.2.1,c.2.2.2.2))
 | none=>do
   liftM (rule "list.sort.gallop")
   let c2 ← forIn [:p.size+q.size] ((none,c1.2.1,c1.2.2.1,c1.2.2.2.1,c.2.2.2.2+1,c1.2.2.2.2.1,c1.2.2.2.2.2):MSt) fun _=>loL p q
   match c2.1 with
   | some r=>pure (.done (some r,c2.2.1,c2.2.2.1,c2.2.2.2.1,c2.2.2.2.2.1))
   | none=>do
     setGalX (c2.2.2.2.2.1+1)
     pure (.yield (none,c2.2.1,c2.2.2.1,c2.2.2.2.1,c2.2.2.2.2.1+1))
noncomputable def mergeLoX:Array Keyed->Array Keyed->StateT SortSt Sem (Array Keyed):=sortPriv% PySem.Builtin.mergeLo
theorem mergeLoX_eq:mergeLoX p q=(do
 liftM (rule "list.sort.merge-lo")
 let y ← elem' q 0
 if(1 == q.size)=true then pure (fin1L p q #[y] 0 1)
 else if(0+1 == p.size)=true then pure (fin2L p q #[y] 0 1)
 else do
  let z ← get
  let c ← forIn [:p.size+q.size] ((none,#[y],0,1,gallopOf z):MS1) fun _=>loO p q
  match c.1 with
  | some r=>pure r
  | none=>liftM (unsupported "internal:list.sort.merge-bound")):=by kernel_rfl
end
structure SmS(st st':SortSt):Prop where
 k:kindOf st'=kindOf st
 a:arrOf st'=arrOf st
 p:pendingOf st'=pendingOf st
 f:failedOf st'=failedOf st
theorem SmS.rfl'(st:SortSt):SmS st st:=⟨rfl,rfl,rfl,rfl⟩
theorem SmS.gal{st st':SortSt}(h:SmS st st')(g:Nat):SmS st (SortSt.mk' (kindOf st') (arrOf st') (pendingOf st') g (failedOf st')):=⟨h.k,h.a,h.p,h.f⟩
section
variable{prog:Program}{w:World}{A:Around}{E:Value->Shared->Prop}{s:Shared}{O:KeyOrd}{ky:Keyed->O.α}{good:Keyed->Prop}{kd:SortKind}
noncomputable def LtOk(prog:Program)(w:World)(A:Around)(E:Value->Shared->Prop)(s:Shared)(O:KeyOrd)(ky:Keyed->O.α)(good:Keyed->Prop)(kd:SortKind):Prop:=
 ∀(x y:Keyed) (st:SortSt) (Q:Option Bool->SortSt->Prop),good x->good y->kindOf st=kd->Q (some (O.blt (ky x) (ky y))) st->wpS (model prog w) A E s (lt' x y) Q st
theorem wpS_elem{xs:Array Keyed}{i:Nat}{x:Keyed}{st:SortSt}{Q:Keyed->SortSt->Prop}(h:xs[i]?=some x)(q:Q x st):wpS (model prog w) A E s (elem' xs i) Q st:=by
 rw[elem'_eq,h];exact wpS_pure q
theorem wpS_bey(hL:LtOk prog w A E s O ky good kd){lf:Bool}{key x:Keyed}{xs:Array Keyed}{i:Nat}{st:SortSt}{Q:Option Bool->SortSt->Prop}(hk:kindOf st=kd)(hx:xs[i]?=some x)(g1:good key)(g2:good x)
 (q:Q (some (if lf=true then O.blt (ky x) (ky key)else !O.blt (ky key) (ky x))) st):wpS (model prog w) A E s (beyX lf key xs i) Q st:=by
 unfold beyX;refine wpS_bind (wpS_elem hx ?_);cases lf with
 | true=>exact hL x key st _ g2 g1 hk q
 | false=>exact wpS_bind (hL key x st _ g1 g2 hk (wpS_pure q))
theorem wpS_gal(hL:LtOk prog w A E s O ky good kd){lf:Bool}{key:Keyed}{xs:Array Keyed}{b n h:Nat}{st:SortSt}{Q:Option Nat->SortSt->Prop}(hk:kindOf st=kd)(g1:good key)(gx:∀ x∈xs.toList,good x)
 (sx:∀ i j x y,b<=i->i<=j->j < b+n->xs[i]?=some x->xs[j]?=some y->Le ky x y) (hn:b+n<=xs.size) (hh:h < n)
 (q:∀ k,k<=n->(∀ i x,b<=i->i < b+k->xs[i]?=some x->(lf=true->O.blt (ky x) (ky key)=true)/\(lf=false->Le ky x key)) ->
  (∀ i x,b+k<=i->i < b+n->xs[i]?=some x->(lf=true->Le ky key x)/\(lf=false->O.blt (ky key) (ky x)=true))->Q (some k) st) :
 wpS (model prog w) A E s (gallopX lf key xs b n h) Q st:=by
 have at_:∀ i,i < n -> ∃ x,xs[b+i]?=some x/\good x:=fun i hi=>by
  have hi':b+i < xs.size:=by omega
  exact⟨xs[b+i],Array.getElem?_eq_getElem hi',gx _ (by simp)⟩
 have P:∀ i,∃ v:Bool,∀ x,xs[b+i]?=some x->v=(if lf=true then O.blt (ky x) (ky key)else !O.blt (ky key) (ky x)):=fun i=>by
  cases e:xs[b+i]? with
  | none=>exact⟨true,fun x h=>by cases h⟩
  | some x=>exact⟨_,fun y h=>by cases h;rfl⟩
 obtain⟨p,hp⟩:∃ p:Nat->Bool,∀ i x,xs[b+i]?=some x->p i=(if lf=true then O.blt (ky x) (ky key)else !O.blt (ky key) (ky x)):=⟨fun i=>(P i).choose,fun i=>(P i).choose_spec⟩;clear P;refine wpS_gallop p (fun i hi Q' z=>?_) (fun i j hij hj e=>?_) hh fun k k1 k2 k3=>q k k1 (fun i x h1 h2 e=>?_) fun i x h1 h2 e=>?_
 · obtain⟨x,ex,gxx⟩:=at_ i hi
   exact wpS_bey hL hk ex g1 gxx (by rw[← hp i x ex];exact z)
 · obtain⟨x,ex,_⟩:=at_ i (by omega)
   obtain⟨y,ey,_⟩:=at_ j hj;have le:=sx (b+i) (b+j) x y (by omega) (by omega) (by omega) ex ey
   rw[hp i x ex];rw[hp j y ey]at e;cases lf with
   | true=>
     have e:O.blt (ky y) (ky key)=true:=e;exact KeyOrd.klt_of_kle_of_klt le e
   | false=>
     have e:(!O.blt (ky key) (ky y))=true:=e;have e:O.kle (ky y) (ky key):=by unfold KeyOrd.kle;simpa using e
     have:=KeyOrd.kle_trans le e;show(!O.blt (ky key) (ky x))=true;rw[show O.blt (ky key) (ky x)=false from this]
     rfl
 · obtain⟨i',rfl⟩:∃ i',i=b+i':=⟨i - b,by omega⟩
   have:=k2 i' (by omega)
   rw[hp i' x e]at this
   constructor
   · rintro rfl;exact this
   rintro rfl;have e:(!O.blt (ky key) (ky x))=true:=this;show O.blt (ky key) (ky x)=false
   simpa using e
 obtain⟨i',rfl⟩:∃ i',i=b+i':=⟨i - b,by omega⟩
 have:=k3 i' (by omega) (by omega)
 rw[hp i' x e]at this
 constructor
 · rintro rfl;exact this
 rintro rfl;have e:(!O.blt (ky key) (ky x))=false:=this
 simpa using e
theorem wpS_ite{α:Type}{c:Prop}[Decidable c]{m n:StateT SortSt Sem α}{Q:α -> SortSt->Prop}{st:SortSt}(h1:c->wpS (model prog w) A E s m Q st)(h2:¬ c->wpS (model prog w) A E s n Q st):wpS (model prog w) A E s (if c then m else n) Q st:=by
 by_cases h:c
 · rw[if_pos h];exact h1 h
 rw[if_neg h];exact h2 h
theorem wpS_setG{st st0:SortSt}{g:Nat}{Q:Unit->SortSt->Prop}(S:SmS st st0)(h:∀ st',SmS st st'->Q () st'):wpS (model prog w) A E s (setGalX g) Q st0:=by
 rw[setGalX_eq];exact wpS_modify (h _ (S.gal g))
theorem of_beq{a b:Nat}(h:(a == b)=true):a=b:=by simpa using h
theorem of_nbeq{a b:Nat}(h:¬ (a == b)=true):¬ a=b:=by simpa using h
theorem ext_list(p:Array Keyed)(i j:Nat):(p.extract i j).toList=(p.toList.drop i).take (j - i):=by
 rw[Array.toList_extract,List.extract_eq_take_drop]
theorem ext_end(p:Array Keyed)(i:Nat):(p.extract i p.size).toList=p.toList.drop i:=by
 rw[ext_list,List.take_of_length_le (by rw[List.length_drop,Array.length_toList];exact Nat.le_refl _)]
theorem at_list{p:Array Keyed}{i:Nat}{x:Keyed}(h:p[i]?=some x):p.toList[i]?=some x:=by rw[Array.getElem?_toList];exact h
theorem list_at{p:Array Keyed}{i:Nat}{x:Keyed}(h:p.toList[i]?=some x):p[i]?=some x:=by rw[← Array.getElem?_toList];exact h
theorem Srd.at{p:Array Keyed}(h:Srd ky p.toList){i j:Nat}{x y:Keyed}(hij:i<=j)(hx:p[i]?=some x)(hy:p[j]?=some y):Le ky x y:=h.get hij (at_list hx) (at_list hy)
theorem JL.a1{p q:Array Keyed}{o:Array Keyed}{i j:Nat}{x y:Keyed}(J:JL ky p.toList q.toList o.toList i j)(sp:Srd ky p.toList)(sq:Srd ky q.toList)(hx:p[i]?=some x)(hy:q[j]?=some y)(h:Le ky x y):JL ky p.toList q.toList (o.push x).toList (i+1) j:=by
 have:=J.a sp 1 (fun z hz u hu=>by
  rw[drop_one (at_list hx),List.mem_singleton]at hz;obtain⟨k,hk,e⟩:=mem_drop_get hu;subst hz;exact h.trans (sq.get hk (at_list hy) e))
 rw[drop_one (at_list hx)]at this;rw[Array.toList_push];exact this
theorem JL.b1{p q:Array Keyed}{o:Array Keyed}{i j:Nat}{x y:Keyed}(J:JL ky p.toList q.toList o.toList i j)(sp:Srd ky p.toList)(sq:Srd ky q.toList)(hx:p[i]?=some x)(hy:q[j]?=some y)(h:Le ky y x):JL ky p.toList q.toList (o.push y).toList i (j+1):=by
 have:=J.b sq 1 (fun z hz u hu=>by
  rw[drop_one (at_list hy),List.mem_singleton]at hz;obtain⟨k,hk,e⟩:=mem_drop_get hu;subst hz;exact h.trans (sp.get hk (at_list hx) e))
 rw[drop_one (at_list hy)]at this;rw[Array.toList_push];exact this
theorem some_at{p:Array Keyed}{i:Nat}(h:i < p.size):∃ x,p[i]?=some x/\x∈p.toList:=⟨p[i],Array.getElem?_eq_getElem h,by simp⟩
theorem JL.aK{p q:Array Keyed}{o:Array Keyed}{i j k:Nat}{y:Keyed}(J:JL ky p.toList q.toList o.toList i j)(sp:Srd ky p.toList)(sq:Srd ky q.toList)(hy:q[j]?=some y)(h:∀ m x,i<=m->m < i+k->p[m]?=some x->Le ky x y):JL ky p.toList q.toList (o++p.extract i (i+k)).toList (i+k) j:=by
 have:=J.a sp k (fun z hz u hu=>by
  obtain⟨m,hm,e⟩:=mem_take_get hz;rw[List.getElem?_drop]at e;obtain⟨n,hn,e2⟩:=mem_drop_get hu;exact(h (i+m) z (by omega) (by omega) (list_at e)).trans (sq.get hn (at_list hy) e2))
 rw[Array.toList_append,ext_list,Nat.add_sub_cancel_left];exact this
theorem JL.bK{p q:Array Keyed}{o:Array Keyed}{i j k:Nat}{x:Keyed}(J:JL ky p.toList q.toList o.toList i j)(sp:Srd ky p.toList)(sq:Srd ky q.toList)(hx:p[i]?=some x)(h:∀ m y,j<=m->m < j+k->q[m]?=some y->Le ky y x):JL ky p.toList q.toList (o++q.extract j (j+k)).toList i (j+k):=by
 have:=J.b sq k (fun z hz u hu=>by
  obtain⟨m,hm,e⟩:=mem_take_get hz;rw[List.getElem?_drop]at e;obtain⟨n,hn,e2⟩:=mem_drop_get hu;exact(h (j+m) z (by omega) (by omega) (list_at e)).trans (sp.get hn (at_list hx) e2))
 rw[Array.toList_append,ext_list,Nat.add_sub_cancel_left];exact this
structure LoF(prog:Program)(w:World)(A:Around)(E:Value->Shared->Prop)(s:Shared){O:KeyOrd}(ky:Keyed->O.α)(good:Keyed->Prop)(kd:SortKind)(p q:Array Keyed)(st:SortSt)(Q:Array Keyed->SortSt->Prop):Prop where
 hL:LtOk prog w A E s O ky good kd
 hk:kindOf st=kd
 gp:∀ x∈p.toList,good x
 gq:∀ x∈q.toList,good x
 sp:Srd ky p.toList
 sq:Srd ky q.toList
 f1:∀(o:Array Keyed) (i j:Nat) (st':SortSt),SmS st st'->JL ky p.toList q.toList o.toList i j->(p.size<=i∨q.size<=j)->Q (fin1L p q o i j) st'
 f2:∀(o:Array Keyed) (i j:Nat) (st':SortSt),SmS st st'->JL ky p.toList q.toList o.toList i j->i+1=p.size->Q (fin2L p q o i j) st'
structure LoI(ky:Keyed->O.α)(p q:Array Keyed)(st:SortSt)(B:Nat)(o:Array Keyed)(i j:Nat)(st':SortSt):Prop where
 S:SmS st st'
 J:JL ky p.toList q.toList o.toList i j
 a1:i+1 < p.size
 a2:j < q.size
 a3:B<=i+j
variable{p q:Array Keyed}{st st':SortSt}{Q:Array Keyed->SortSt->Prop}{B:Nat}
noncomputable def LoD(ky:Keyed->O.α)(p q:Array Keyed)(st:SortSt)(Q:Array Keyed->SortSt->Prop)(B:Nat)(c:MSt)(st':SortSt):Prop:=(∃ r z,c=(some r,z)/\Q r st') ∨ ∃ o i j mg ac bc,c=(none,o,i,j,mg,ac,bc)/\LoI ky p q st B o i j st'
noncomputable def LoR(ky:Keyed->O.α)(p q:Array Keyed)(st:SortSt)(Q:Array Keyed->SortSt->Prop)(B:Nat)(r:ForInStep MSt)(st':SortSt):Prop:=match r with
 | .done c=>LoD ky p q st Q B c st'
 | .yield c=>∃ o i j mg ac bc,c=(none,o,i,j,mg,ac,bc)/\LoI ky p q st B o i j st'
theorem wpS_loC(F:LoF prog w A E s ky good kd p q st Q){o:Array Keyed}{i j mg k l:Nat}{v:Keyed}(I:LoI ky p q st B o i j st')(ev:p[i]?=some v)(h:∀ y,q[j]?=some y->Le ky v y):wpS (model prog w) A E s (loC p q o i j mg k l) (LoR ky p q st Q B) st':=by
 obtain⟨y,ey,_⟩:=some_at I.a2;have J:=I.J.a1 F.sp F.sq ev ey (h y ey);have a3:=I.a3;refine wpS_bind (wpS_elem ev ?_);refine wpS_ite (fun c=>wpS_pure (.inl ⟨_,_,rfl,F.f2 _ _ _ _ I.S J (of_beq c)⟩)) (fun c=>?_);have K:LoI ky p q st B (o.push v) (i+1) j st':=⟨I.S,J,Nat.lt_of_le_of_ne I.a1 (of_nbeq c),I.a2,Nat.le_trans a3 (by omega)⟩
 exact wpS_ite (fun _=>wpS_pure (.inr ⟨_,_,_,_,_,_,rfl,K⟩)) fun _=>wpS_pure ⟨_,_,_,_,_,_,rfl,K⟩
theorem wpS_loB(F:LoF prog w A E s ky good kd p q st Q){o:Array Keyed}{i j mg k bc:Nat}{y:Keyed}(I:LoI ky p q st B o i j st')(ey:q[j]?=some y)(h:∀ v,p[i]?=some v->Le ky y v):wpS (model prog w) A E s (loB p q o i j mg k bc) (LoR ky p q st Q B) st':=by
 obtain⟨v,ev,mv⟩:=some_at (Nat.lt_of_succ_lt I.a1);have J:=I.J.b1 F.sp F.sq ev ey (h v ev);have a1:=I.a1;have a2:=I.a2;have a3:=I.a3;refine wpS_bind (wpS_elem ey ?_);refine wpS_ite (fun c=>wpS_pure (.inl ⟨_,_,rfl,F.f1 _ _ _ _ I.S J (.inr (Nat.le_of_eq (of_beq c).symm))⟩)) (fun c=>?_);have a4:j+1 < q.size:=Nat.lt_of_le_of_ne I.a2 (of_nbeq c);refine wpS_bind (wpS_elem ev (wpS_bind (wpS_gal F.hL (I.S.k.trans F.hk) (F.gp _ mv) F.gq (fun i' j' x y _ h2 _ ex ey=>F.sq.at h2 ex ey) (by omega) (by omega) fun l l1 l2 l3=>?_)))
 have l4:∀ y,q[j+1+l]?=some y->Le ky v y:=fun y e=>(l3 (j+1+l) y (Nat.le_refl _) (by have:=(Array.getElem?_eq_some_iff.mp e).1;omega) e).1 rfl
 refine wpS_ite (fun g=>?_) (fun g=>?_)
 · have J4:=J.bK (k:=l) F.sp F.sq ev fun m x h1 h2 e=>Le.of_lt ((l2 m x h1 h2 e).1 rfl)
   refine wpS_ite (fun c=>wpS_pure (.inl ⟨_,_,rfl,F.f1 _ _ _ _ I.S J4 (.inr (Nat.le_of_eq (of_beq c).symm))⟩)) (fun c=>?_);have:=of_nbeq c;exact wpS_loC F ⟨I.S,J4,a1,by omega,by omega⟩ ev l4
 obtain rfl:l=0:=Nat.eq_zero_of_not_pos g;exact wpS_loC F ⟨I.S,J,a1,a4,Nat.le_succ_of_le a3⟩ ev l4
theorem wpS_loG(F:LoF prog w A E s ky good kd p q st Q){o:Array Keyed}{i j mg ac bc:Nat}(I:LoI ky p q st B o i j st'):wpS (model prog w) A E s (loG p q o i j mg ac bc) (LoR ky p q st Q B) st':=by
 obtain⟨y,ey,my⟩:=some_at I.a2;have a1:=I.a1;have a3:=I.a3;refine wpS_bind (wpS_setG I.S fun st3 S3=>?_);refine wpS_bind (wpS_elem ey (wpS_bind (wpS_gal F.hL (S3.k.trans F.hk) (F.gq _ my) F.gp (fun i' j' x y _ h2 _ ex ey=>F.sp.at h2 ex ey) (by omega) (by omega) fun k k1 k2 k3=>?_)))
 have k4:∀ v,p[i+k]?=some v->Le ky y v:=fun v e=>Le.of_lt ((k3 (i+k) v (Nat.le_refl _) (by have:=(Array.getElem?_eq_some_iff.mp e).1;omega) e).2 rfl)
 refine wpS_ite (fun g=>?_) (fun g=>?_)
 · have J:=I.J.aK (k:=k) F.sp F.sq ey fun m x h1 h2 e=>(k2 m x h1 h2 e).2 rfl
   refine wpS_ite (fun c=>wpS_pure (.inl ⟨_,_,rfl,F.f2 _ _ _ _ S3 J (of_beq c)⟩)) (fun c=>?_);refine wpS_ite (fun c5=>wpS_pure (.inl ⟨_,_,rfl,F.f1 _ _ _ _ S3 J (.inl (Nat.le_of_eq (of_beq c5).symm))⟩)) (fun c5=>?_);have n1:=of_nbeq c;have n2:=of_nbeq c5;exact wpS_loB F ⟨S3,J,by omega,I.a2,by omega⟩ ey k4
 obtain rfl:k=0:=Nat.eq_zero_of_not_pos g;exact wpS_loB F ⟨S3,I.J,a1,I.a2,a3⟩ ey k4
theorem wpS_loL(F:LoF prog w A E s ky good kd p q st Q){o:Array Keyed}{i j mg ac bc:Nat}(I:LoI ky p q st B o i j st'):wpS (model prog w) A E s (loL p q (none,o,i,j,mg,ac,bc)) (LoR ky p q st Q B) st':=
 wpS_ite (fun _=>wpS_loG F I) fun _=>wpS_loG F I
noncomputable def LoE(ky:Keyed->O.α)(p q:Array Keyed)(st:SortSt)(Q:Array Keyed->SortSt->Prop)(B:Nat)(r:ForInStep MS2)(st':SortSt):Prop:=match r with
 | .done c=>(∃ r z,c=(some r,z)/\Q r st') ∨ ∃ o i j ac bc,c=(none,o,i,j,ac,bc)/\LoI ky p q st B o i j st'
 | .yield c=>∃ o i j ac bc,c=(none,o,i,j,ac,bc)/\LoI ky p q st B o i j st'
theorem wpS_loA(F:LoF prog w A E s ky good kd p q st Q){o:Array Keyed}{i j mg ac bc:Nat}(I:LoI ky p q st B o i j st'):wpS (model prog w) A E s (loA p q mg (none,o,i,j,ac,bc)) (LoE ky p q st Q (B+1)) st':=by
 obtain⟨y,ey,my⟩:=some_at I.a2;obtain⟨v,ev,mv⟩:=some_at (Nat.lt_of_succ_lt I.a1);refine wpS_bind (wpS_elem ey (wpS_bind (wpS_elem ev (wpS_bind (F.hL y v st' _ (F.gq _ my) (F.gp _ mv) (I.S.k.trans F.hk) ?_)))));cases eb:O.blt (ky y) (ky v)with
 | true=>
   refine wpS_bind (wpS_elem ey ?_);have J:=I.J.b1 F.sp F.sq ev ey (Le.of_lt eb);refine wpS_ite (fun c=>wpS_pure (.inl ⟨_,_,rfl,F.f1 _ _ _ _ I.S J (.inr (Nat.le_of_eq (of_beq c).symm))⟩)) (fun c=>?_);have K:LoI ky p q st (B+1) (o.push y) i (j+1) st':=⟨I.S,J,I.a1,Nat.lt_of_le_of_ne I.a2 (of_nbeq c),Nat.succ_le_succ I.a3⟩;exact wpS_ite (fun _=>wpS_pure (.inr ⟨_,_,_,_,_,rfl,K⟩)) fun _=>wpS_pure ⟨_,_,_,_,_,rfl,K⟩
 | false=>
   refine wpS_bind (wpS_elem ev ?_);have J:=I.J.a1 F.sp F.sq ev ey (Le.of_not eb);refine wpS_ite (fun c=>wpS_pure (.inl ⟨_,_,rfl,F.f2 _ _ _ _ I.S J (of_beq c)⟩)) (fun c=>?_);have a3:=I.a3;have K:LoI ky p q st (B+1) (o.push v) (i+1) j st':=⟨I.S,J,Nat.lt_of_le_of_ne I.a1 (of_nbeq c),I.a2,by omega⟩
   exact wpS_ite (fun _=>wpS_pure (.inr ⟨_,_,_,_,_,rfl,K⟩)) fun _=>wpS_pure ⟨_,_,_,_,_,rfl,K⟩
noncomputable def LoX(ky:Keyed->O.α)(p q:Array Keyed)(st:SortSt)(Q:Array Keyed->SortSt->Prop)(B:Nat)(r:ForInStep MS1)(st':SortSt):Prop:=match r with
 | .done c=>∃ r z,c=(some r,z)/\Q r st'
 | .yield c=>∃ o i j mg,c=(none,o,i,j,mg)/\LoI ky p q st B o i j st'
theorem LoI.mono{B C:Nat}{o:Array Keyed}{i j:Nat}(I:LoI ky p q st B o i j st')(h:C<=B):LoI ky p q st C o i j st':=⟨I.S,I.J,I.a1,I.a2,Nat.le_trans h I.a3⟩
theorem wpS_loO(F:LoF prog w A E s ky good kd p q st Q){o:Array Keyed}{i j mg:Nat}(I:LoI ky p q st B o i j st'):wpS (model prog w) A E s (loO p q (none,o,i,j,mg)) (LoX ky p q st Q (B+1)) st':=by
 have tt:0 < p.size+q.size:=Nat.add_pos_right _ (Nat.lt_of_le_of_lt (Nat.zero_le _) I.a2);refine wpS_bind (wpS_mono (wpS_forRange (I:=fun x c st'=>∃ o i j ac bc,c=(none,o,i,j,ac,bc)/\LoI ky p q st (B+x) o i j st')
  (Q:=fun c st'=>(∃ r z,c=(some r,z)/\Q r st') ∨ ∃ o i j ac bc,c=(none,o,i,j,ac,bc)/\LoI ky p q st (B+1) o i j st') ?_ ?_ ⟨o,i,j,0,0,rfl,I⟩) ?_)
 · rintro x c st2 _ _ ⟨o,i,j,ac,bc,rfl,I⟩
   refine wpS_mono (wpS_loA F I) fun r st3 h=>?_;cases r with
   | done c=>exact h.imp id fun⟨o,i,j,ac,bc,e,I⟩=>⟨o,i,j,ac,bc,e,I.mono (by omega)⟩
   | yield c=>exact h
 · rintro c st2 ⟨o,i,j,ac,bc,rfl,I⟩
   exact .inr ⟨o,i,j,ac,bc,rfl,I.mono (by omega)⟩
 rintro c st2 (⟨r,z,rfl,hq⟩ | ⟨o,i,j,ac,bc,rfl,I⟩)
 · exact wpS_pure ⟨_,_,rfl,hq⟩
 refine wpS_bind (wpS_lift (wpAny_rule ⟨rfl,?_⟩));refine wpS_bind (wpS_mono (wpS_forRange (I:=fun x c st'=>∃ o i j mg ac bc,c=(none,o,i,j,mg,ac,bc)/\LoI ky p q st (B+1) o i j st') (Q:=LoD ky p q st Q (B+1)) ?_ (fun c st' h=>.inr h) ⟨o,i,j,_,ac,bc,rfl,I⟩) ?_)
 · rintro x c st3 _ _ ⟨o,i,j,mg,ac,bc,rfl,I⟩
   refine wpS_mono (wpS_loL F I) fun r st4 h=>?_;cases r with
   | done c=>exact h
   | yield c=>exact h
 rintro c st3 (⟨r,z,rfl,hq⟩ | ⟨o,i,j,mg,ac,bc,rfl,I⟩)
 · exact wpS_pure ⟨_,_,rfl,hq⟩
 exact wpS_bind (wpS_setG I.S fun st4 S4=>wpS_pure ⟨o,i,j,_,rfl,S4,I.J,I.a1,I.a2,I.a3⟩)
theorem wpS_mergeLo(hL:LtOk prog w A E s O ky good kd)(hk:kindOf st=kd)(gp:∀ x∈p.toList,good x)(gq:∀ x∈q.toList,good x)(sp:Srd ky p.toList)(sq:Srd ky q.toList)(p0:0 < p.size)(q0:0 < q.size)
 (h0:∀ x y,p[0]?=some x->q[0]?=some y->Le ky y x) (hl:∀ x∈q.toList,∀ y,p[p.size - 1]?=some y->Le ky x y) (hQ:∀ r st',SmS st st'->Mgd ky p.toList q.toList r.toList->Q r st') :
 wpS (model prog w) A E s (mergeLoX p q) Q st:=by
 have F:LoF prog w A E s ky good kd p q st Q:=⟨hL,hk,gp,gq,sp,sq,fun o i j st' S J h=>hQ _ _ S (by
  unfold fin1L;rw[Array.toList_append,Array.toList_append,ext_end,ext_end];exact J.fin1 sp sq (by rw[Array.length_toList,Array.length_toList];exact h)),fun o i j st' S J h=>hQ _ _ S (by
  unfold fin2L;rw[Array.toList_append,Array.toList_append,ext_end,ext_end];refine J.fin2 sp sq fun x hx y hy=>?_;obtain⟨k,k1,k2⟩:=mem_drop_get hy;have k3:=(List.getElem?_eq_some_iff.mp k2).1;rw[Array.length_toList]at k3;obtain rfl:k=p.size - 1:=by omega
  exact hl x hx y (list_at k2))⟩
 rw[mergeLoX_eq];refine wpS_bind (wpS_lift (wpAny_rule ⟨rfl,?_⟩));obtain⟨y0,e0,m0⟩:=some_at q0;obtain⟨x0,d0,_⟩:=some_at p0;refine wpS_bind (wpS_elem e0 ?_);have J0:JL ky p.toList q.toList (#[y0]:Array Keyed).toList 0 1:=by
  have:JL ky p.toList q.toList (#[]:Array Keyed).toList 0 0:=⟨by rw[List.take_zero,List.take_zero];exact List.Perm.refl _,List.Pairwise.nil,fun x hx=>nomatch hx⟩
  exact this.b1 sp sq d0 e0 (h0 _ _ d0 e0)
 refine wpS_ite (fun c=>wpS_pure (F.f1 _ _ _ _ (SmS.rfl' st) J0 (.inr (Nat.le_of_eq (of_beq c).symm)))) (fun c1=>?_);refine wpS_ite (fun c=>wpS_pure (F.f2 _ _ _ _ (SmS.rfl' st) J0 (of_beq c))) (fun c2=>?_);have n1:=of_nbeq c1;have n2:=of_nbeq c2;refine wpS_bind (wpS_get (wpS_bind (wpS_mono (wpS_forRange (I:=fun x c st'=>∃ o i j mg,c=(none,o,i,j,mg)/\LoI ky p q st (x+1) o i j st') (Q:=fun c st'=>∃ r z,c=(some r,z)/\Q r st') ?_ ?_ ⟨_,0,1,_,rfl,SmS.rfl' st,J0,by omega,by omega,Nat.le_refl _⟩) ?_)))
 · rintro x c st1 _ hx ⟨o,i,j,mg,rfl,I⟩
   refine wpS_mono (wpS_loO F I) fun r st4 h=>?_;cases r with
   | done c=>exact h
   | yield c=>exact h
 · rintro c st' ⟨o,i,j,mg,rfl,I⟩
   have:=I.a1;have:=I.a2;have:=I.a3;omega
 rintro c st' ⟨r,z,rfl,hq⟩;exact wpS_pure hq
end
noncomputable abbrev HSt:=Option (Array Keyed)×Nat×Nat×Array Keyed×Nat×Nat×Nat
noncomputable abbrev HS2:=Option (Array Keyed)×Nat×Nat×Array Keyed×Nat×Nat
noncomputable abbrev HS1:=Option (Array Keyed)×Nat×Nat×Array Keyed×Nat
section
variable(p q:Array Keyed)
noncomputable def fin1H(o:Array Keyed)(i j:Nat):Array Keyed:=p.extract 0 i++q.extract 0 j++o.reverse
noncomputable def fin2H(o:Array Keyed)(i j:Nat):Array Keyed:=q.extract 0 j++p.extract 0 i++o.reverse
noncomputable def hiC(o:Array Keyed)(i j mg k l:Nat):StateT SortSt Sem (ForInStep HSt):=do
 let x ← elem' p (i - 1)
 if(i - 1 == 0)=true then pure (.done (some (fin1H p q (o.push x) (i - 1) j),i - 1,j,o.push x,mg,k,l))
 else if(decide (k < 7) && decide (l < 7))=true then pure (.done (none,i - 1,j,o.push x,mg,k,l))else pure (.yield (none,i - 1,j,o.push x,mg,k,l))
noncomputable def hiB(o:Array Keyed)(i j mg k bc:Nat):StateT SortSt Sem (ForInStep HSt):=do
 let y ← elem' q (j - 1)
 if(j - 1 == 1)=true then pure (.done (some (fin2H p q (o.push y) i (j - 1)),i,j - 1,o.push y,mg,k,bc))
 else do
  let v ← elem' p (i - 1)
  let z ← gallopX true v q 0 (j - 1) (j - 1 - 1)
  match z with
  | some t=>
    if j - 1 - t > 0 then
     if(t == 1)=true then pure (.done (some (fin2H p q (o.push y++(q.extract t (j - 1)).reverse) i t),i,t,o.push y++(q.extract t (j - 1)).reverse,mg,k,j - 1 - t))
     else if(t == 0)=true then pure (.done (some (fin1H p q (o.push y++(q.extract t (j - 1)).reverse) i t),i,t,o.push y++(q.extract t (j - 1)).reverse,mg,k,j - 1 - t))
     else hiC p q (o.push y++(q.extract t (j - 1)).reverse) i t mg k (j - 1 - t)
    else hiC p q (o.push y) i (j - 1) mg k (j - 1 - t)
  | _=>pure (.done (some (fin1H p q (o.push y) i (j - 1)),i,j - 1,o.push y,mg,k,bc))
noncomputable def hiG(o:Array Keyed)(i j mg ac bc:Nat):StateT SortSt Sem (ForInStep HSt):=do
 setGalX mg
 let y ← elem' q (j - 1)
 let z ← gallopX false y p 0 i (i - 1)
 match z with
 | some t=>
   if i - t > 0 then
    if(t == 0)=true then pure (.done (some (fin1H p q (o++(p.extract t i).reverse) t j),t,j,o++(p.extract t i).reverse,mg,i - t,bc))
    else hiB p q (o++(p.extract t i).reverse) t j mg (i - t) bc
   else hiB p q o i j mg (i - t) bc
 | _=>pure (.done (some (fin1H p q o i j),i,j,o,mg,ac,bc))
noncomputable def hiL(c:HSt):StateT SortSt Sem (ForInStep HSt):=
 if c.2.2.2.2.1 > 1 then hiG p q c.2.2.2.1 c.2.1 c.2.2.1 (c.2.2.2.2.1 - 1) c.2.2.2.2.2.1 c.2.2.2.2.2.2 else hiG p q c.2.2.2.1 c.2.1 c.2.2.1 c.2.2.2.2.1 c.2.2.2.2.2.1 c.2.2.2.2.2.2
noncomputable def hiA(mg:Nat)(c:HS2):StateT SortSt Sem (ForInStep HS2):=do
 let y ← elem' q (c.2.2.1 - 1)
 let v ← elem' p (c.2.1 - 1)
 let z ← lt' y v
 match z with
 | some aw=>
   if aw=true then do
    let v ← elem' p (c.2.1 - 1)
    if(c.2.1 - 1 == 0)=true then pure (.done (some (fin1H p q (c.2.2.2.1.push v) (c.2.1 - 1) c.2.2.1),c.2.1 - 1,c.2.2.1,c.2.2.2.1.push v,c.2.2.2.2.1+1,0))
    else if c.2.2.2.2.1+1 ≥ mg then pure (.done (none,c.2.1 - 1,c.2.2.1,c.2.2.2.1.push v,c.2.2.2.2.1+1,0))else pure (.yield (none,c.2.1 - 1,c.2.2.1,c.2.2.2.1.push v,c.2.2.2.2.1+1,0))
   else do
    let y ← elem' q (c.2.2.1 - 1)
    if(c.2.2.1 - 1 == 1)=true then pure (.done (some (fin2H p q (c.2.2.2.1.push y) c.2.1 (c.2.2.1 - 1)),c.2.1,c.2.2.1 - 1,c.2.2.2.1.push y,0,c.2.2.2.2.2+1))
    else if c.2.2.2.2.2+1 ≥ mg then pure (.done (none,c.2.1,c.2.2.1 - 1,c.2.2.2.1.push y,0,c.2.2.2.2.2+1))else pure (.yield (none,c.2.1,c.2.2.1 - 1,c.2.2.2.1.push y,0,c.2.2.2.2.2+1))
 | _=>pure (.done (some (fin1H p q c.2.2.2.1 c.2.1 c.2.2.1),c.2))
noncomputable def hiO(c:HS1):StateT SortSt Sem (ForInStep HS1):=do
 let c1 ← forIn [:p.size+q.size] ((none,c.2.1,c.2.2.1,c.2.2.2.1,0,0):HS2) fun _=>hiA p q c.2.2.2.2
 match c1.1 with
 | some r=>pure (.done (some r,c1.2.1,c1.2.2.1,c1.2.2.2.1,c.2.2.2.2))
 | none=>do
   liftM (rule "list.sort.gallop")
   let c2 ← forIn [:p.size+q.size] ((none,c1.2.1,c1.2.2.1,c1.2.2.2.1,c.2.2.2.2+1,c1.2.2.2.2.1,c1.2.2.2.2.2):HSt) fun _=>hiL p q
   match c2.1 with
   | some r=>pure (.done (some r,c2.2.1,c2.2.2.1,c2.2.2.2.1,c2.2.2.2.2.1))
   | none=>do
     setGalX (c2.2.2.2.2.1+1)
     pure (.yield (none,c2.2.1,c2.2.2.1,c2.2.2.2.1,c2.2.2.2.2.1+1))
noncomputable def mergeHiX:Array Keyed->Array Keyed->StateT SortSt Sem (Array Keyed):=sortPriv% PySem.Builtin.mergeHi
theorem mergeHiX_eq:mergeHiX p q=(do
 liftM (rule "list.sort.merge-hi")
 let x ← elem' p (p.size - 1)
 if(p.size - 1 == 0)=true then pure (fin1H p q #[x] (p.size - 1) q.size)
 else if(q.size == 1)=true then pure (fin2H p q #[x] (p.size - 1) q.size)
 else do
  let z ← get
  let c ← forIn [:p.size+q.size] ((none,p.size - 1,q.size,#[x],gallopOf z):HS1) fun _=>hiO p q
  match c.1 with
  | some r=>pure r
  | none=>liftM (unsupported "internal:list.sort.merge-bound")):=by kernel_rfl
end
section
variable{prog:Program}{w:World}{A:Around}{E:Value->Shared->Prop}{s:Shared}{O:KeyOrd}{ky:Keyed->O.α}{good:Keyed->Prop}{kd:SortKind}
theorem rev_ext(p:Array Keyed)(t i:Nat):(p.extract t i).reverse.toList=((p.toList.take i).drop t).reverse:=by
 rw[Array.toList_reverse,ext_list,List.drop_take]
theorem ext_0(p:Array Keyed)(i:Nat):(p.extract 0 i).toList=p.toList.take i:=by
 rw[ext_list,List.drop_zero,Nat.sub_zero]
theorem mem_td_get{l:List Keyed}{i t:Nat}{y:Keyed}(h:y∈(l.take i).drop t):∃ j,t<=j/\j < i/\l[j]?=some y:=by
 obtain⟨k,k1,k2⟩:=mem_drop_get h;have hl:=(List.getElem?_eq_some_iff.mp k2).1;rw[List.length_take]at hl;rw[List.getElem?_take_of_lt (by omega)]at k2
 exact⟨k,k1,by omega,k2⟩
theorem JH.aK{p q:Array Keyed}{o:Array Keyed}{i j t:Nat}{y:Keyed}(J:JH ky p.toList q.toList o.toList i j)(sp:Srd ky p.toList)(sq:Srd ky q.toList)(ht:t<=i)(hy:q[j - 1]?=some y)(h:∀ m x,t<=m->m < i->p[m]?=some x->Le ky y x):JH ky p.toList q.toList (o++(p.extract t i).reverse).toList t j:=by
 have:=J.a sp t ht (fun z hz u hu=>by
  obtain⟨m,m1,m2,e⟩:=mem_td_get hz;obtain⟨n,hn,e2⟩:=mem_take_get hu;exact(sq.get (by omega) e2 (at_list hy)).trans (h m z m1 m2 (list_at e)))
 rw[Array.toList_append,rev_ext];exact this
theorem JH.bK{p q:Array Keyed}{o:Array Keyed}{i j t:Nat}{x:Keyed}(J:JH ky p.toList q.toList o.toList i j)(sp:Srd ky p.toList)(sq:Srd ky q.toList)(ht:t<=j)(hx:p[i - 1]?=some x)(h:∀ m y,t<=m->m < j->q[m]?=some y->Le ky x y):JH ky p.toList q.toList (o++(q.extract t j).reverse).toList i t:=by
 have:=J.b sq t ht (fun z hz u hu=>by
  obtain⟨m,m1,m2,e⟩:=mem_td_get hz;obtain⟨n,hn,e2⟩:=mem_take_get hu;exact(sp.get (by omega) e2 (at_list hx)).trans (h m z m1 m2 (list_at e)))
 rw[Array.toList_append,rev_ext];exact this
theorem ext_1{p:Array Keyed}{i:Nat}{x:Keyed}(h:p[i]?=some x):(p.extract i (i+1)).reverse.toList=[x]:=by
 rw[rev_ext,take_one (at_list h)]
 rfl
theorem JH.a1{p q:Array Keyed}{o:Array Keyed}{i j:Nat}{x y:Keyed}(J:JH ky p.toList q.toList o.toList i j)(sp:Srd ky p.toList)(sq:Srd ky q.toList)(hi:1<=i)(hx:p[i - 1]?=some x)(hy:q[j - 1]?=some y)(h:Le ky y x):JH ky p.toList q.toList (o.push x).toList (i - 1) j:=by
 have:=J.aK (t:=i - 1) sp sq (by omega) hy fun m z m1 m2 e=>by
  obtain rfl:m=i - 1:=by omega
  rw[hx]at e;cases e;exact h
 have e:=ext_1 hx;rw[Nat.sub_add_cancel hi]at e;rw[Array.toList_append,e]at this;rw[Array.toList_push];exact this
theorem JH.b1{p q:Array Keyed}{o:Array Keyed}{i j:Nat}{x y:Keyed}(J:JH ky p.toList q.toList o.toList i j)(sp:Srd ky p.toList)(sq:Srd ky q.toList)(hj:1<=j)(hx:p[i - 1]?=some x)(hy:q[j - 1]?=some y)(h:Le ky x y):JH ky p.toList q.toList (o.push y).toList i (j - 1):=by
 have:=J.bK (t:=j - 1) sp sq (by omega) hx fun m z m1 m2 e=>by
  obtain rfl:m=j - 1:=by omega
  rw[hy]at e;cases e;exact h
 have e:=ext_1 hy;rw[Nat.sub_add_cancel hj]at e;rw[Array.toList_append,e]at this;rw[Array.toList_push];exact this
structure HiF(prog:Program)(w:World)(A:Around)(E:Value->Shared->Prop)(s:Shared){O:KeyOrd}(ky:Keyed->O.α)(good:Keyed->Prop)(kd:SortKind)(p q:Array Keyed)(st:SortSt)(Q:Array Keyed->SortSt->Prop):Prop where
 hL:LtOk prog w A E s O ky good kd
 hk:kindOf st=kd
 gp:∀ x∈p.toList,good x
 gq:∀ x∈q.toList,good x
 sp:Srd ky p.toList
 sq:Srd ky q.toList
 f1:∀(o:Array Keyed) (i j:Nat) (st':SortSt),SmS st st'->JH ky p.toList q.toList o.toList i j->(i=0∨j=0)->Q (fin1H p q o i j) st'
 f2:∀(o:Array Keyed) (i j:Nat) (st':SortSt),SmS st st'->JH ky p.toList q.toList o.toList i j->j=1->Q (fin2H p q o i j) st'
structure HiI(ky:Keyed->O.α)(p q:Array Keyed)(st:SortSt)(B:Nat)(o:Array Keyed)(i j:Nat)(st':SortSt):Prop where
 S:SmS st st'
 J:JH ky p.toList q.toList o.toList i j
 a1:1<=i
 a2:2<=j
 z1:i<=p.size
 z2:j<=q.size
 a3:i+j+B<=p.size+q.size
variable{p q:Array Keyed}{st st':SortSt}{Q:Array Keyed->SortSt->Prop}{B:Nat}
noncomputable def HiD(ky:Keyed->O.α)(p q:Array Keyed)(st:SortSt)(Q:Array Keyed->SortSt->Prop)(B:Nat)(c:HSt)(st':SortSt):Prop:=(∃ r z,c=(some r,z)/\Q r st') ∨ ∃ i j o mg ac bc,c=(none,i,j,o,mg,ac,bc)/\HiI ky p q st B o i j st'
noncomputable def HiR(ky:Keyed->O.α)(p q:Array Keyed)(st:SortSt)(Q:Array Keyed->SortSt->Prop)(B:Nat)(r:ForInStep HSt)(st':SortSt):Prop:=match r with
 | .done c=>HiD ky p q st Q B c st'
 | .yield c=>∃ i j o mg ac bc,c=(none,i,j,o,mg,ac,bc)/\HiI ky p q st B o i j st'
theorem wpS_hiC(F:HiF prog w A E s ky good kd p q st Q){o:Array Keyed}{i j mg k l:Nat}{v:Keyed}(I:HiI ky p q st B o i j st')(ev:p[i - 1]?=some v)(h:∀ y,q[j - 1]?=some y->Le ky y v):wpS (model prog w) A E s (hiC p q o i j mg k l) (HiR ky p q st Q B) st':=by
 have a1:=I.a1;have a2:=I.a2;have z1:=I.z1;have z2:=I.z2;have a3:=I.a3;obtain⟨y,ey,_⟩:=some_at (p:=q) (i:=j - 1) (by omega)
 have J:=I.J.a1 F.sp F.sq a1 ev ey (h y ey);refine wpS_bind (wpS_elem ev ?_);refine wpS_ite (fun c=>wpS_pure (.inl ⟨_,_,rfl,F.f1 _ _ _ _ I.S J (.inl (of_beq c))⟩)) (fun c=>?_);have n:=of_nbeq c;have K:HiI ky p q st B (o.push v) (i - 1) j st':=⟨I.S,J,by omega,a2,by omega,z2,by omega⟩
 exact wpS_ite (fun _=>wpS_pure (.inr ⟨_,_,_,_,_,_,rfl,K⟩)) fun _=>wpS_pure ⟨_,_,_,_,_,_,rfl,K⟩
theorem wpS_hiB(F:HiF prog w A E s ky good kd p q st Q){o:Array Keyed}{i j mg k bc:Nat}{y:Keyed}(I:HiI ky p q st B o i j st')(ey:q[j - 1]?=some y)(h:∀ v,p[i - 1]?=some v->Le ky v y):wpS (model prog w) A E s (hiB p q o i j mg k bc) (HiR ky p q st Q B) st':=by
 have a1:=I.a1;have a2:=I.a2;have z1:=I.z1;have z2:=I.z2;have a3:=I.a3;obtain⟨v,ev,mv⟩:=some_at (p:=p) (i:=i - 1) (by omega)
 have J:=I.J.b1 F.sp F.sq (Nat.le_of_succ_le a2) ev ey (h v ev);refine wpS_bind (wpS_elem ey ?_);refine wpS_ite (fun c=>wpS_pure (.inl ⟨_,_,rfl,F.f2 _ _ _ _ I.S J (of_beq c)⟩)) (fun c=>?_);have n:=of_nbeq c;refine wpS_bind (wpS_elem ev (wpS_bind (wpS_gal F.hL (I.S.k.trans F.hk) (F.gp _ mv) F.gq (fun i' j' x y _ h2 _ ex ey=>F.sq.at h2 ex ey) (by omega) (by omega) fun l l1 l2 l3=>?_)))
 have l4:1<=l -> ∀ y,q[l - 1]?=some y->Le ky y v:=fun h y e=>Le.of_lt ((l2 (l - 1) y (Nat.zero_le _) (by omega) e).1 rfl)
 refine wpS_ite (fun g=>?_) (fun g=>?_)
 · have J4:=J.bK (t:=l) F.sp F.sq l1 ev fun m x h1 h2 e=>(l3 m x (by omega) (by omega) e).1 rfl
   refine wpS_ite (fun c=>wpS_pure (.inl ⟨_,_,rfl,F.f2 _ _ _ _ I.S J4 (of_beq c)⟩)) (fun c6=>?_);refine wpS_ite (fun c=>wpS_pure (.inl ⟨_,_,rfl,F.f1 _ _ _ _ I.S J4 (.inr (of_beq c))⟩)) (fun c9=>?_);have n6:=of_nbeq c6;have n9:=of_nbeq c9;exact wpS_hiC F ⟨I.S,J4,a1,by omega,z1,by omega,by omega⟩ ev (l4 (by omega))
 obtain rfl:l=j - 1:=by omega
 exact wpS_hiC F ⟨I.S,J,a1,by omega,z1,by omega,by omega⟩ ev (l4 (by omega))
theorem wpS_hiG(F:HiF prog w A E s ky good kd p q st Q){o:Array Keyed}{i j mg ac bc:Nat}(I:HiI ky p q st B o i j st'):wpS (model prog w) A E s (hiG p q o i j mg ac bc) (HiR ky p q st Q B) st':=by
 have a1:=I.a1;have a2:=I.a2;have z1:=I.z1;have z2:=I.z2;have a3:=I.a3;obtain⟨y,ey,my⟩:=some_at (p:=q) (i:=j - 1) (by omega)
 refine wpS_bind (wpS_setG I.S fun st3 S3=>?_);refine wpS_bind (wpS_elem ey (wpS_bind (wpS_gal F.hL (S3.k.trans F.hk) (F.gq _ my) F.gp (fun i' j' x y _ h2 _ ex ey=>F.sp.at h2 ex ey) (by omega) (by omega) fun t k1 k2 k3=>?_)))
 have k4:1<=t -> ∀ v,p[t - 1]?=some v->Le ky v y:=fun h v e=>(k2 (t - 1) v (Nat.zero_le _) (by omega) e).2 rfl
 refine wpS_ite (fun g=>?_) (fun g=>?_)
 · have J:=I.J.aK (t:=t) F.sp F.sq k1 ey fun m x h1 h2 e=>Le.of_lt ((k3 m x (by omega) (by omega) e).2 rfl)
   refine wpS_ite (fun c=>wpS_pure (.inl ⟨_,_,rfl,F.f1 _ _ _ _ S3 J (.inl (of_beq c))⟩)) (fun c=>?_);have n:=of_nbeq c;exact wpS_hiB F ⟨S3,J,by omega,a2,by omega,z2,by omega⟩ ey (k4 (by omega))
 obtain rfl:t=i:=by omega
 exact wpS_hiB F ⟨S3,I.J,a1,a2,z1,z2,a3⟩ ey (k4 a1)
theorem wpS_hiL(F:HiF prog w A E s ky good kd p q st Q){o:Array Keyed}{i j mg ac bc:Nat}(I:HiI ky p q st B o i j st'):wpS (model prog w) A E s (hiL p q (none,i,j,o,mg,ac,bc)) (HiR ky p q st Q B) st':=
 wpS_ite (fun _=>wpS_hiG F I) fun _=>wpS_hiG F I
noncomputable def HiE(ky:Keyed->O.α)(p q:Array Keyed)(st:SortSt)(Q:Array Keyed->SortSt->Prop)(B:Nat)(r:ForInStep HS2)(st':SortSt):Prop:=match r with
 | .done c=>(∃ r z,c=(some r,z)/\Q r st') ∨ ∃ i j o ac bc,c=(none,i,j,o,ac,bc)/\HiI ky p q st B o i j st'
 | .yield c=>∃ i j o ac bc,c=(none,i,j,o,ac,bc)/\HiI ky p q st B o i j st'
theorem wpS_hiA(F:HiF prog w A E s ky good kd p q st Q){o:Array Keyed}{i j mg ac bc:Nat}(I:HiI ky p q st B o i j st'):wpS (model prog w) A E s (hiA p q mg (none,i,j,o,ac,bc)) (HiE ky p q st Q (B+1)) st':=by
 have a1:=I.a1;have a2:=I.a2;have z1:=I.z1;have z2:=I.z2;have a3:=I.a3;obtain⟨y,ey,my⟩:=some_at (p:=q) (i:=j - 1) (by omega)
 obtain⟨v,ev,mv⟩:=some_at (p:=p) (i:=i - 1) (by omega)
 refine wpS_bind (wpS_elem ey (wpS_bind (wpS_elem ev (wpS_bind (F.hL y v st' _ (F.gq _ my) (F.gp _ mv) (I.S.k.trans F.hk) ?_)))));cases eb:O.blt (ky y) (ky v)with
 | true=>
   refine wpS_bind (wpS_elem ev ?_);have J:=I.J.a1 F.sp F.sq a1 ev ey (Le.of_lt eb);refine wpS_ite (fun c=>wpS_pure (.inl ⟨_,_,rfl,F.f1 _ _ _ _ I.S J (.inl (of_beq c))⟩)) (fun c=>?_);have n:¬ i - 1=0:=of_nbeq c;have K:HiI ky p q st (B+1) (o.push v) (i - 1) j st':=⟨I.S,J,by omega,a2,by omega,z2,by omega⟩
   exact wpS_ite (fun _=>wpS_pure (.inr ⟨_,_,_,_,_,rfl,K⟩)) fun _=>wpS_pure ⟨_,_,_,_,_,rfl,K⟩
 | false=>
   refine wpS_bind (wpS_elem ey ?_);have J:=I.J.b1 F.sp F.sq (Nat.le_of_succ_le a2) ev ey (Le.of_not eb);refine wpS_ite (fun c=>wpS_pure (.inl ⟨_,_,rfl,F.f2 _ _ _ _ I.S J (of_beq c)⟩)) (fun c=>?_);have n:¬ j - 1=1:=of_nbeq c;have K:HiI ky p q st (B+1) (o.push y) i (j - 1) st':=⟨I.S,J,a1,by omega,z1,by omega,by omega⟩
   exact wpS_ite (fun _=>wpS_pure (.inr ⟨_,_,_,_,_,rfl,K⟩)) fun _=>wpS_pure ⟨_,_,_,_,_,rfl,K⟩
noncomputable def HiX(ky:Keyed->O.α)(p q:Array Keyed)(st:SortSt)(Q:Array Keyed->SortSt->Prop)(B:Nat)(r:ForInStep HS1)(st':SortSt):Prop:=match r with
 | .done c=>∃ r z,c=(some r,z)/\Q r st'
 | .yield c=>∃ i j o mg,c=(none,i,j,o,mg)/\HiI ky p q st B o i j st'
theorem HiI.mono{B C:Nat}{o:Array Keyed}{i j:Nat}(I:HiI ky p q st B o i j st')(h:C<=B):HiI ky p q st C o i j st':=⟨I.S,I.J,I.a1,I.a2,I.z1,I.z2,Nat.le_trans (Nat.add_le_add_left h _) I.a3⟩
theorem wpS_hiO(F:HiF prog w A E s ky good kd p q st Q){o:Array Keyed}{i j mg:Nat}(I:HiI ky p q st B o i j st'):wpS (model prog w) A E s (hiO p q (none,i,j,o,mg)) (HiX ky p q st Q (B+1)) st':=by
 have tt:0 < p.size+q.size:=Nat.add_pos_left (Nat.lt_of_lt_of_le I.a1 I.z1) _;refine wpS_bind (wpS_mono (wpS_forRange (I:=fun x c st'=>∃ i j o ac bc,c=(none,i,j,o,ac,bc)/\HiI ky p q st (B+x) o i j st')
  (Q:=fun c st'=>(∃ r z,c=(some r,z)/\Q r st') ∨ ∃ i j o ac bc,c=(none,i,j,o,ac,bc)/\HiI ky p q st (B+1) o i j st') ?_ ?_ ⟨i,j,o,0,0,rfl,I⟩) ?_)
 · rintro x c st2 _ _ ⟨i,j,o,ac,bc,rfl,I⟩
   refine wpS_mono (wpS_hiA F I) fun r st3 h=>?_;cases r with
   | done c=>exact h.imp id fun⟨i,j,o,ac,bc,e,I⟩=>⟨i,j,o,ac,bc,e,I.mono (by omega)⟩
   | yield c=>exact h
 · rintro c st2 ⟨i,j,o,ac,bc,rfl,I⟩
   exact .inr ⟨i,j,o,ac,bc,rfl,I.mono (by omega)⟩
 rintro c st2 (⟨r,z,rfl,hq⟩ | ⟨i,j,o,ac,bc,rfl,I⟩)
 · exact wpS_pure ⟨_,_,rfl,hq⟩
 refine wpS_bind (wpS_lift (wpAny_rule ⟨rfl,?_⟩));refine wpS_bind (wpS_mono (wpS_forRange (I:=fun x c st'=>∃ i j o mg ac bc,c=(none,i,j,o,mg,ac,bc)/\HiI ky p q st (B+1) o i j st') (Q:=HiD ky p q st Q (B+1)) ?_ (fun c st' h=>.inr h) ⟨i,j,o,_,ac,bc,rfl,I⟩) ?_)
 · rintro x c st3 _ _ ⟨i,j,o,mg,ac,bc,rfl,I⟩
   refine wpS_mono (wpS_hiL F I) fun r st4 h=>?_;cases r with
   | done c=>exact h
   | yield c=>exact h
 rintro c st3 (⟨r,z,rfl,hq⟩ | ⟨i,j,o,mg,ac,bc,rfl,I⟩)
 · exact wpS_pure ⟨_,_,rfl,hq⟩
 exact wpS_bind (wpS_setG I.S fun st4 S4=>wpS_pure ⟨i,j,o,_,rfl,S4,I.J,I.a1,I.a2,I.z1,I.z2,I.a3⟩)
theorem wpS_mergeHi(hL:LtOk prog w A E s O ky good kd)(hk:kindOf st=kd)(gp:∀ x∈p.toList,good x)(gq:∀ x∈q.toList,good x)(sp:Srd ky p.toList)(sq:Srd ky q.toList)(p0:0 < p.size)(q0:0 < q.size)
 (h0:∀ y,q[0]?=some y -> ∀ x∈p.toList,Le ky y x) (hl:∀ x y,p[p.size - 1]?=some x->q[q.size - 1]?=some y->Le ky y x) (hQ:∀ r st',SmS st st'->Mgd ky p.toList q.toList r.toList->Q r st') :
 wpS (model prog w) A E s (mergeHiX p q) Q st:=by
 have F:HiF prog w A E s ky good kd p q st Q:=⟨hL,hk,gp,gq,sp,sq,fun o i j st' S J h=>hQ _ _ S (by
  unfold fin1H;rw[Array.toList_append,Array.toList_append,ext_0,ext_0,Array.toList_reverse];exact J.fin1 sp sq h),fun o i j st' S J h=>hQ _ _ S (by
  unfold fin2H;rw[Array.toList_append,Array.toList_append,ext_0,ext_0,Array.toList_reverse];refine J.fin2 sp sq fun x hx y hy=>?_;obtain⟨k,k1,k2⟩:=mem_take_get hx;obtain rfl:k=0:=by omega
  exact h0 x (list_at k2) y hy)⟩
 rw[mergeHiX_eq];refine wpS_bind (wpS_lift (wpAny_rule ⟨rfl,?_⟩));obtain⟨x0,d0,m0⟩:=some_at (p:=p) (i:=p.size - 1) (by omega)
 obtain⟨y0,e0,_⟩:=some_at (p:=q) (i:=q.size - 1) (by omega)
 refine wpS_bind (wpS_elem d0 ?_);have J0:JH ky p.toList q.toList (#[x0]:Array Keyed).toList (p.size - 1) q.size:=by
  have:JH ky p.toList q.toList (#[]:Array Keyed).toList p.size q.size:=⟨by rw[List.drop_of_length_le (by simp),List.drop_of_length_le (by simp)];exact List.Perm.refl _,List.Pairwise.nil,fun x hx=>nomatch hx⟩
  exact this.a1 sp sq p0 d0 e0 (hl _ _ d0 e0)
 refine wpS_ite (fun c=>wpS_pure (F.f1 _ _ _ _ (SmS.rfl' st) J0 (.inl (of_beq c)))) (fun c1=>?_);refine wpS_ite (fun c=>wpS_pure (F.f2 _ _ _ _ (SmS.rfl' st) J0 (of_beq c))) (fun c2=>?_);have n1:=of_nbeq c1;have n2:=of_nbeq c2;refine wpS_bind (wpS_get (wpS_bind (wpS_mono (wpS_forRange (I:=fun x c st'=>∃ i j o mg,c=(none,i,j,o,mg)/\HiI ky p q st (x+1) o i j st') (Q:=fun c st'=>∃ r z,c=(some r,z)/\Q r st') ?_ ?_ ⟨_,_,_,_,rfl,SmS.rfl' st,J0,by omega,by omega,by omega,Nat.le_refl _,by omega⟩) ?_)))
 · rintro x c st1 _ hx ⟨i,j,o,mg,rfl,I⟩
   refine wpS_mono (wpS_hiO F I) fun r st4 h=>?_;cases r with
   | done c=>exact h
   | yield c=>exact h
 · rintro c st' ⟨i,j,o,mg,rfl,I⟩
   have:=I.a1;have:=I.a3;omega
 rintro c st' ⟨r,z,rfl,hq⟩;exact wpS_pure hq
end
theorem mergeAtX_eq(i:Nat):mergeAt' i=(do
 let z ← get
 let(some (sa,na,pw),some (sb,nb,_)):=((pendingOf z)[i]?,(pendingOf z)[i+1]?) | unsupported "internal:list.sort.pending"
 set (setPending z (((pendingOf z).setIfInBounds i (sa,na+nb,pw)).eraseIdxIfInBounds (i+1)))
 let some k ← gallopX false (← elem' (arrOf z) sb) (arrOf z) sa na 0 | return false
 let(sa,na):=(sa+k,na - k)
 if na == 0 then return true
 let some nb ← gallopX true (← elem' (arrOf z) (sa+na - 1)) (arrOf z) sb nb (nb - 1) | return false
 if nb == 0 then return true
 let x:=(arrOf z).extract sa sb
 let y:=(arrOf z).extract sb (sb+nb)
 let mm ← if na<=nb then mergeLoX x y else mergeHiX x y
 modify fun u=>setArr u (mm.toList.zipIdx.foldl (fun a (e,j)=>a.setIfInBounds (sa+j) e) (arrOf u))
 return(failedOf (← get)).isNone):=rfl
noncomputable def rlay:Nat->List (List Keyed)->List (Nat×Nat)
 | _,[]=>[]
 | s,r::rs=>(s,r.length)::rlay (s+r.length) rs
theorem rlay_app:∀(u v:List (List Keyed)) (s:Nat),rlay s (u++v)=rlay s u++rlay (s+u.flatten.length) v
 | [],v,s=>by simp[rlay]
 | r::u,v,s=>by
   show(s,r.length)::rlay (s+r.length) (u++v)=(s,r.length)::(rlay (s+r.length) u++_);rw[rlay_app u v,List.flatten_cons,List.length_append,Nat.add_assoc]
theorem rlay_len:∀(u:List (List Keyed)) (s:Nat),(rlay s u).length=u.length
 | [],s=>rfl
 | r::u,s=>by show(rlay _ u).length+1=_;rw[rlay_len u];rfl
theorem wr_at(b:Nat):∀(m:List Keyed) (n:Nat) (xs:Array Keyed),b+n+m.length<=xs.size->((m.zipIdx n).foldl (fun a (e,j)=>a.setIfInBounds (b+j) e) xs).toList=xs.toList.take (b+n)++m++xs.toList.drop (b+n+m.length)
 | [],n,xs,h=>by simp
 | x::m,n,xs,h=>by
   rw[List.zipIdx_cons,List.foldl_cons];rw[List.length_cons]at h;have ih:=wr_at b m (n+1) (xs.setIfInBounds (b+n) x) (by rw[Array.size_setIfInBounds];omega)
   rw[ih,Array.toList_setIfInBounds];have hl:b+n < xs.toList.length:=by rw[Array.length_toList];omega
   have e1:(xs.toList.set (b+n) x).take (b+(n+1))=xs.toList.take (b+n)++[x]:=by
    rw[show b+(n+1)=(b+n)+1 by omega,List.take_add_one,List.take_set_of_le (Nat.le_refl _),List.getElem?_set_self hl]
    rfl
   have e2:(xs.toList.set (b+n) x).drop (b+(n+1)+m.length)=xs.toList.drop (b+n+(x::m).length):=by
    rw[List.drop_set_of_lt (by omega),List.length_cons]
    congr 1
    omega
   rw[e1,e2];simp
section
variable{prog:Program}{w:World}{A:Around}{E:Value->Shared->Prop}{s:Shared}{O:KeyOrd}{ky:Keyed->O.α}{good:Keyed->Prop}{kd:SortKind}
theorem wpS_set{α:Type}{st z:SortSt}{Q:PUnit->SortSt->Prop}(h:Q ⟨⟩ z):wpS (model prog w) A E s (set z:StateT SortSt Sem PUnit) Q st:=by
 unfold wpS;exact wpAny_pure ⟨rfl,h⟩
structure PD(ky:Keyed->O.α)(good:Keyed->Prop)(kd:SortKind)(a₀:Array Keyed)(st:SortSt)(rs:List (List Keyed))(rest:List Keyed):Prop where
 pm:(arrOf st).Perm a₀
 kd:kindOf st=kd
 fl:failedOf st=none
 eq:(arrOf st).toList=rs.flatten++rest
 pd:(pendingOf st).toList.map (fun t=>(t.1,t.2.1))=rlay 0 rs
 so:∀ r∈rs,Srd ky r/\r≠[]
 gd:∀ x∈(arrOf st).toList,good x
theorem mid_get{pre a post:List Keyed}{i:Nat}(h1:pre.length<=i)(h2:i < pre.length+a.length):(pre++a++post)[i]?=a[i - pre.length]?:=by
 rw[List.append_assoc,List.getElem?_append_right h1,List.getElem?_append_left (by omega)]
theorem pend_of{ps:List (Nat×Nat×Nat)}{u v:List (List Keyed)}{a b:List Keyed}(h:ps.map (fun t=>(t.1,t.2.1))=rlay 0 (u++a::b::v)) :
 ∃ pu pv pw pw2,ps=pu++(u.flatten.length,a.length,pw)::(u.flatten.length+a.length,b.length,pw2)::pv/\pu.length=u.length/\pu.map (fun t=>(t.1,t.2.1))=rlay 0 u/\pv.map (fun t=>(t.1,t.2.1))=rlay (u.flatten.length+a.length+b.length) v:=by
 rw[rlay_app,Nat.zero_add]at h;obtain⟨pu,pr,rfl,h1,h2⟩:=List.map_eq_append_iff.mp h;have h2:pr.map (fun t=>(t.1,t.2.1))=(u.flatten.length,a.length)::(u.flatten.length+a.length,b.length)::rlay (u.flatten.length+a.length+b.length) v:=h2;obtain⟨ta,pr2,rfl,h3,h4⟩:=List.map_eq_cons_iff.mp h2;obtain⟨tb,pv,rfl,h5,h6⟩:=List.map_eq_cons_iff.mp h4;obtain⟨ta1,ta2,ta3⟩:=ta;obtain⟨tb1,tb2,tb3⟩:=tb;cases h3;cases h5;refine⟨pu,pv,ta3,tb3,rfl,?_,h1,h6⟩;have:=congrArg List.length h1;rw[List.length_map,rlay_len]at this;exact this
theorem PD.merge{a₀:Array Keyed}{st st':SortSt}{u v:List (List Keyed)}{a b r rest:List Keyed}{pw:Nat}(P:PD ky good kd a₀ st (u++a::b::v) rest)(k1:kindOf st'=kindOf st)(f1:failedOf st'=failedOf st)
 (e1:(arrOf st').toList=u.flatten++r++(v.flatten++rest)) (pm:r.Perm (a++b)) (so:Srd ky r) (hp:∀ pu pv pa pb,(pendingOf st).toList=pu++pa::pb::pv->pu.length=u.length->(pendingOf st').toList=pu++(u.flatten.length,a.length+b.length,pw)::pv):PD ky good kd a₀ st' (u++r::v) rest:=by
 obtain⟨pu,pv,w1,w2,ep,lp,m1,m2⟩:=pend_of P.pd;have ex:(arrOf st).toList=u.flatten++(a++b)++(v.flatten++rest):=by rw[P.eq];simp
 have pml:(arrOf st').toList.Perm (arrOf st).toList:=by
  rw[e1,ex];exact List.Perm.append_right _ (List.Perm.append_left _ pm)
 have hl:r.length=a.length+b.length:=by rw[pm.length_eq,List.length_append]
 refine⟨(Array.perm_iff_toList_perm.mpr pml).trans P.pm,k1.trans P.kd,f1.trans P.fl,by rw[e1];simp,?_,fun z hz=>?_,fun x hx=>P.gd x (pml.mem_iff.mp hx)⟩
 · rw[hp pu pv _ _ ep lp,List.map_append,m1,List.map_cons,m2,rlay_app,Nat.zero_add]
   show _++(u.flatten.length,a.length+b.length)::_=_++(u.flatten.length,r.length)::rlay (u.flatten.length+r.length) v;rw[hl,Nat.add_assoc]
 rcases List.mem_append.mp hz with y | y
 · exact P.so z (List.mem_append_left _ y)
 rcases List.mem_cons.mp y with rfl | y
 · refine⟨so,fun e=>?_⟩
   subst e;have:=(P.so a (by simp)).2
   have:=List.length_pos_iff.mpr this;simp at hl;omega
 exact P.so z (by simp[y])
theorem wpS_mergeAt(hL:LtOk prog w A E s O ky good kd){a₀:Array Keyed}{st:SortSt}{u v:List (List Keyed)}{a b rest:List Keyed}{Q:Bool->SortSt->Prop}(P:PD ky good kd a₀ st (u++a::b::v) rest)
 (q:∀ r st',PD ky good kd a₀ st' (u++r::v) rest->Q true st'):wpS (model prog w) A E s (mergeAt' u.length) Q st:=by
 obtain⟨pu,pv,pw,pw2,ep,lp,_,_⟩:=pend_of P.pd;have ga:(pendingOf st)[u.length]?=some (u.flatten.length,a.length,pw):=by
  rw[← Array.getElem?_toList,ep,← lp,List.getElem?_append_right (Nat.le_refl _),Nat.sub_self];rfl
 have gb:(pendingOf st)[u.length+1]?=some (u.flatten.length+a.length,b.length,pw2):=by
  rw[← Array.getElem?_toList,ep,← lp,List.getElem?_append_right (by omega),show pu.length+1 - pu.length=1 by omega];rfl
 have hp:∀ pu' pv' pa pb,(pendingOf st).toList=pu'++pa::pb::pv'->pu'.length=u.length->(((pendingOf st).setIfInBounds u.length (u.flatten.length,a.length+b.length,pw)).eraseIdxIfInBounds (u.length+1)).toList=pu'++(u.flatten.length,a.length+b.length,pw)::pv':=fun pu' pv' pa pb e l=>by
  rw[Array.toList_eraseIdxIfInBounds,Array.toList_setIfInBounds,e,← l,List.set_append_right _ _ (Nat.le_refl _),Nat.sub_self,List.set_cons_zero,List.eraseIdx_append_of_length_le (by omega),show pu'.length+1 - pu'.length=1 by omega]
  rfl
 have sa:=(P.so a (by simp)).1
 have na:=List.length_pos_iff.mpr (P.so a (by simp)).2
 have sb:=(P.so b (by simp)).1
 have nb:=List.length_pos_iff.mpr (P.so b (by simp)).2
 have ex:(arrOf st).toList=u.flatten++(a++b)++(v.flatten++rest):=by rw[P.eq];simp
 have eA:∀ i,i < a.length->(arrOf st)[u.flatten.length+i]?=a[i]?:=fun i hi=>by
  rw[← Array.getElem?_toList,ex,mid_get (by omega) (by rw[List.length_append];omega),Nat.add_sub_cancel_left,List.getElem?_append_left hi]
 have eB:∀ i,i < b.length->(arrOf st)[u.flatten.length+a.length+i]?=b[i]?:=fun i hi=>by
  rw[← Array.getElem?_toList,ex,mid_get (by omega) (by rw[List.length_append];omega),show u.flatten.length+a.length+i - u.flatten.length=a.length+i by omega,List.getElem?_append_right (by omega),Nat.add_sub_cancel_left]
 have size:u.flatten.length+a.length+b.length<=(arrOf st).size:=by
  rw[← Array.length_toList,ex];simp only[List.length_append];omega
 obtain⟨b0,eb0⟩:∃ x,b[0]?=some x:=⟨_,List.getElem?_eq_getElem nb⟩;obtain⟨al,eal⟩:∃ x,a[a.length - 1]?=some x:=⟨_,List.getElem?_eq_getElem (by omega)⟩
 have gd:=P.gd;have kk:=P.kd;have gb0:good b0:=gd _ (by rw[ex];have:=List.mem_of_getElem? eb0;simp[this])
 have gal:good al:=gd _ (by rw[ex];have:=List.mem_of_getElem? eal;simp[this])
 have b0le:∀ y∈b,Le ky b0 y:=fun y hy=>by
  obtain⟨j,hj⟩:=List.getElem?_of_mem hy;exact sb.get (Nat.zero_le _) eb0 hj
 have leal:∀ x∈a,Le ky x al:=fun x hx=>by
  obtain⟨j,hj⟩:=List.getElem?_of_mem hx;have:=(List.getElem?_eq_some_iff.mp hj).1;exact sa.get (by omega) hj eal
 rw[mergeAtX_eq];refine wpS_bind (wpS_get ?_);rw[ga,gb]
 dsimp only
 refine wpS_bind (wpS_set (α:=Unit) ?_);have done_:∀ r,r.Perm (a++b)->Srd ky r->r=a++b->Q true (setPending st (((pendingOf st).setIfInBounds u.length (u.flatten.length,a.length+b.length,pw)).eraseIdxIfInBounds (u.length+1))):=fun r pm so e=>by
  subst e;exact q _ _ (P.merge (st':=setPending st _) rfl rfl ex pm so hp)
 refine wpS_bind (wpS_elem (by have:=eB 0 nb;rw[Nat.add_zero]at this;rw[this,eb0]) ?_)
 refine wpS_bind (wpS_gal hL kk gb0 gd (fun i j x y h1 h2 h3 e1 e2=>?_) (by omega) na fun k k1 k2 k3=>?_)
 · rw[show i=u.flatten.length+(i - u.flatten.length) by omega,eA _ (by omega)]at e1
   rw[show j=u.flatten.length+(j - u.flatten.length) by omega,eA _ (by omega)]at e2
   exact sa.get (by omega) e1 e2
 have A1:∀ x∈a.take k,Le ky x b0:=fun x hx=>by
  obtain⟨m,m1,m2⟩:=mem_take_get hx;have:=(List.getElem?_eq_some_iff.mp m2).1;exact(k2 (u.flatten.length+m) x (by omega) (by omega) (by rw[eA m (by omega)];exact m2)).2 rfl
 have A2:∀ x∈a.drop k,Le ky b0 x:=fun x hx=>by
  obtain⟨m,m1,m2⟩:=mem_drop_get hx;have:=(List.getElem?_eq_some_iff.mp m2).1;exact Le.of_lt ((k3 (u.flatten.length+m) x (by omega) (by omega) (by rw[eA m (by omega)];exact m2)).2 rfl)
 dsimp only
 refine wpS_ite (fun c=>wpS_pure ?_) (fun c=>?_)
 · have c:=of_beq c
   refine done_ (a++b) (List.Perm.refl _) (Srd.app.mpr ⟨sa,sb,fun x hx y hy=>(A1 x ?_).trans (b0le y hy)⟩) rfl;rw[List.take_of_length_le (by omega)]
   exact hx
 have c:=of_nbeq c;refine wpS_bind (wpS_elem (by rw[show u.flatten.length+k+(a.length - k) - 1=u.flatten.length+(a.length - 1) by omega,eA _ (by omega)];exact eal) ?_)
 refine wpS_bind (wpS_gal hL kk gal gd (fun i j x y h1 h2 h3 e1 e2=>?_) (by omega) (by omega) fun l l1 l2 l3=>?_)
 · rw[show i=u.flatten.length+a.length+(i - (u.flatten.length+a.length)) by omega,eB _ (by omega)]at e1
   rw[show j=u.flatten.length+a.length+(j - (u.flatten.length+a.length)) by omega,eB _ (by omega)]at e2
   exact sb.get (by omega) e1 e2
 have B1:∀ x∈b.take l,Le ky x al:=fun x hx=>by
  obtain⟨m,m1,m2⟩:=mem_take_get hx;have:=(List.getElem?_eq_some_iff.mp m2).1;exact Le.of_lt ((l2 (u.flatten.length+a.length+m) x (by omega) (by omega) (by rw[eB m (by omega)];exact m2)).1 rfl)
 have B2:∀ x∈b.drop l,Le ky al x:=fun x hx=>by
  obtain⟨m,m1,m2⟩:=mem_drop_get hx;have:=(List.getElem?_eq_some_iff.mp m2).1;exact(l3 (u.flatten.length+a.length+m) x (by omega) (by omega) (by rw[eB m (by omega)];exact m2)).1 rfl
 dsimp only
 refine wpS_ite (fun c=>wpS_pure ?_) (fun c2=>?_)
 · have c:=of_beq c
   subst c;exact done_ (a++b) (List.Perm.refl _) (Srd.app.mpr ⟨sa,sb,fun x hx y hy=>(leal x hx).trans (B2 y hy)⟩) rfl
 have c2:=of_nbeq c2;have dr:∀ k,(arrOf st).toList.drop (u.flatten.length+k)=(a++b++(v.flatten++rest)).drop k:=fun k=>by
  rw[ex,List.append_assoc,List.drop_append,List.drop_of_length_le (by omega),Nat.add_sub_cancel_left,List.nil_append]
 have ep1:((arrOf st).extract (u.flatten.length+k) (u.flatten.length+a.length)).toList=a.drop k:=by
  rw[ext_list,dr,List.append_assoc,List.drop_append_of_le_length k1,show u.flatten.length+a.length - (u.flatten.length+k)=(a.drop k).length by rw[List.length_drop];omega,List.take_append_of_le_length (Nat.le_refl _),List.take_length]
 have ep2:((arrOf st).extract (u.flatten.length+a.length) (u.flatten.length+a.length+l)).toList=b.take l:=by
  rw[ext_list,dr,List.append_assoc,List.drop_append_of_le_length (Nat.le_refl _),List.drop_length,List.nil_append,Nat.add_sub_cancel_left,List.take_append_of_le_length l1]
 have sp:Srd ky (a.drop k):=sa.drop k;have sq:Srd ky (b.take l):=sb.take l;have zp:0 < (a.drop k).length:=by rw[List.length_drop];omega
 have zq:0 < (b.take l).length:=by rw[List.length_take];omega
 have lastp:∀ y,(a.drop k)[(a.drop k).length - 1]?=some y->y=al:=fun y e=>by
  rw[List.getElem?_drop,List.length_drop,show k+(a.length - k - 1)=a.length - 1 by omega,eal]at e
  exact(Option.some.inj e).symm
 have firstq:∀ y,(b.take l)[0]?=some y->y=b0:=fun y e=>by
  rw[List.getElem?_take_of_lt (by omega),eb0]at e
  exact(Option.some.inj e).symm
 have gp:∀ x∈a.drop k,good x:=fun x hx=>gd _ (by rw[ex];have:=List.mem_of_mem_drop hx;simp[this])
 have gq:∀ x∈b.take l,good x:=fun x hx=>gd _ (by rw[ex];have:=List.mem_of_mem_take hx;simp[this])
 have fin_:∀(mm:Array Keyed) (st':SortSt),SmS (setPending st (((pendingOf st).setIfInBounds u.length (u.flatten.length,a.length+b.length,pw)).eraseIdxIfInBounds (u.length+1))) st'->Mgd ky (a.drop k) (b.take l) mm.toList ->
  Q true (setArr st' (mm.toList.zipIdx.foldl (fun a (e,j)=>a.setIfInBounds (u.flatten.length+k+j) e) (arrOf st'))):=fun mm st' S M=>by
  have lm:mm.toList.length=a.length - k+l:=by
   rw[M.1.length_eq,List.length_append,List.length_drop,List.length_take];omega
  refine q (a.take k++mm.toList++b.drop l) _ (P.merge (pw:=pw) (st':=setArr st' _) S.k S.f ?_ ?_ ?_ fun pu pv pa pb e l=>?_)
  · show(List.foldl _ (arrOf st') _).toList=_
    rw[S.a];show(List.foldl _ (arrOf st) _).toList=_;rw[wr_at (u.flatten.length+k) mm.toList 0 (arrOf st) (by omega),Nat.add_zero,lm,show u.flatten.length+k+(a.length - k+l)=u.flatten.length+(a.length+l) by omega,dr]
    have e1:(arrOf st).toList.take (u.flatten.length+k)=u.flatten++a.take k:=by
     rw[ex,List.append_assoc,List.take_append,List.take_of_length_le (by omega),Nat.add_sub_cancel_left,List.append_assoc,List.take_append_of_le_length k1]
    have e2:(a++b++(v.flatten++rest)).drop (a.length+l)=b.drop l++(v.flatten++rest):=by
     rw[List.append_assoc,List.drop_append,List.drop_of_length_le (by omega),Nat.add_sub_cancel_left,List.nil_append,List.drop_append_of_le_length l1]
    rw[e1,e2];simp only[List.append_assoc]
  · have h1:(a.take k++mm.toList++b.drop l).Perm (a.take k++(a.drop k++b.take l)++b.drop l):=List.Perm.append_right _ (List.Perm.append_left _ M.1)
    have h2:a.take k++(a.drop k++b.take l)++b.drop l=a++b:=by
     rw[← List.append_assoc,List.take_append_drop,List.append_assoc,List.take_append_drop]
    rw[h2]at h1;exact h1
  · have inM:∀ x∈mm.toList,x∈a.drop k∨x∈b.take l:=fun x hx=>List.mem_append.mp (M.1.mem_iff.mp hx)
    have sa2:=sa;rw[← List.take_append_drop k a]at sa2;have sb2:=sb;rw[← List.take_append_drop l b]at sb2;refine Srd.app.mpr ⟨Srd.app.mpr ⟨sa.take k,M.2,fun x hx y hy=>?_⟩,sb.drop l,fun x hx y hy=>?_⟩
    · rcases inM y hy with z | z
      · exact(Srd.app.mp sa2).2.2 x hx y z
      exact(A1 x hx).trans (b0le y (List.mem_of_mem_take z))
    rcases List.mem_append.mp hx with z | z
    · exact(leal x (List.mem_of_mem_take z)).trans (B2 y hy)
    rcases inM x z with z | z
    · exact(leal x (List.mem_of_mem_drop z)).trans (B2 y hy)
    exact(Srd.app.mp sb2).2.2 x z y hy
  show(pendingOf st').toList=_;rw[S.p];exact hp pu pv pa pb e (by assumption)
 refine wpS_ite (fun _=>?_) (fun _=>?_)
 · refine wpS_bind (wpS_mergeLo hL (by exact kk) (by rw[ep1];exact gp) (by rw[ep2];exact gq) (by rw[ep1];exact sp) (by rw[ep2];exact sq) (by rw[← Array.length_toList,ep1];exact zp) (by rw[← Array.length_toList,ep2];exact zq) (fun x y hx hy=>?_) (fun x hx y hy=>?_) fun mm st' S M=>?_)
   · have hx:=at_list hx
     have hy:=at_list hy;rw[ep1]at hx;rw[ep2]at hy;rw[firstq y hy];exact A2 x (List.mem_of_getElem? hx)
   · have hy:=at_list hy
     rw[← Array.length_toList,ep1]at hy;rw[ep2]at hx;rw[lastp y hy];exact B1 x hx
   rw[ep1,ep2]at M;refine wpS_bind (wpS_modify (wpS_bind (wpS_get ?_)));have:(failedOf st').isNone=true:=by rw[S.f];show(failedOf st).isNone=true;rw[P.fl];rfl
   show wpS _ _ _ _ (pure (failedOf st').isNone) _ _;rw[this];exact wpS_pure (fin_ mm st' S M)
 refine wpS_bind (wpS_mergeHi hL (by exact kk) (by rw[ep1];exact gp) (by rw[ep2];exact gq) (by rw[ep1];exact sp) (by rw[ep2];exact sq) (by rw[← Array.length_toList,ep1];exact zp) (by rw[← Array.length_toList,ep2];exact zq) (fun y hy x hx=>?_) (fun x y hx hy=>?_) fun mm st' S M=>?_)
 · have hy:=at_list hy
   rw[ep1]at hx;rw[ep2]at hy;rw[firstq y hy];exact A2 x hx
 · have hx:=at_list hx
   have hy:=at_list hy;rw[← Array.length_toList,ep1]at hx;rw[ep2]at hy;rw[lastp x hx];exact B1 y (List.mem_of_getElem? hy)
 rw[ep1,ep2]at M;refine wpS_bind (wpS_modify (wpS_bind (wpS_get ?_)));have:(failedOf st').isNone=true:=by rw[S.f];show(failedOf st).isNone=true;rw[P.fl];rfl
 show wpS _ _ _ _ (pure (failedOf st').isNone) _ _;rw[this];exact wpS_pure (fin_ mm st' S M)
end
noncomputable def kyK(κ:PyProof.Rows.KeyKind)(x:Keyed):κ.α:=(κ.keyOf x.1).getD κ.dflt
theorem KK_at{κ:PyProof.Rows.KeyKind}{xs:Array Keyed}{i:Nat}{x:Keyed}(h:xs[i]?=some x):KK κ xs i=kyK κ x:=by
 unfold KK kyK;rw[h]
noncomputable abbrev AS:=Option (Option Nat)×Nat
noncomputable abbrev DS:=Option (Option Nat)×Nat×Nat
noncomputable def ascF(lo:Nat)(c:AS):StateT SortSt Sem (ForInStep AS):=do
 let x ← ltAt' (lo+c.2) (lo+c.2 - 1)
 match x with
 | some sm=>if sm=true then pure (.done (none,c.2))else pure (.yield (none,c.2+1))
 | _=>pure (.done (some none,c.2))
noncomputable def tailF(lo n m:Nat):StateT SortSt Sem (Option Nat):=do
 reverseSlice' lo (lo+m)
 let c ← forIn [m:n] ((none,m):AS) fun _=>ascF lo
 match c.1 with
 | some r=>pure r
 | none=>pure (some c.2)
noncomputable def descF(lo:Nat)(c:DS):StateT SortSt Sem (ForInStep DS):=do
 let x ← ltAt' (lo+c.2.1) (lo+c.2.1 - 1)
 match x with
 | some sm=>
   if sm=true then
    if c.2.2 > 0 then do
     reverseSlice' (lo+c.2.1 - (c.2.2+1)) (lo+c.2.1)
     pure (.yield (none,c.2.1+1,0))
    else pure (.yield (none,c.2.1+1,0))
   else do
    let x ← ltAt' (lo+c.2.1 - 1) (lo+c.2.1)
    match x with
    | some la=>if la=true then pure (.done (none,c.2.1,c.2.2))else pure (.yield (none,c.2.1+1,c.2.2+1))
    | _=>pure (.done (some none,c.2.1,c.2.2))
 | _=>pure (.done (some none,c.2.1,c.2.2))
noncomputable def descP(lo n m:Nat):StateT SortSt Sem (Option Nat):=do
 liftM (rule "list.sort.descending-run")
 let c ← forIn [m+1:n] ((none,m+1,0):DS) fun _=>descF lo
 match c.1 with
 | some r=>pure r
 | none=>
   if c.2.2 > 0 then do
    reverseSlice' (lo+c.2.1 - (c.2.2+1)) (lo+c.2.1)
    tailF lo n c.2.1
   else tailF lo n c.2.1
theorem countX_eq(lo n:Nat):countRun' lo n=(do
 let c ← forIn [1:n] ((none,1):AS) fun _=>ascF lo
 match c.1 with
 | some r=>pure r
 | none=>
   if(c.2 == n)=true then pure (some c.2)
   else if c.2 > 1 then do
    let x ← ltAt' lo (lo+c.2 - 1)
    match x with
    | some ro=>if ro=true then pure (some c.2)else do
      reverseSlice' lo (lo+c.2)
      descP lo n c.2
    | _=>pure none
   else descP lo n c.2):=by kernel_rfl
section
variable{prog:Program}{w:World}{A:Around}{E:Value->Shared->Prop}{s:Shared}{κ:PyProof.Rows.KeyKind}{good:Keyed->Prop}{kd:SortKind}
structure SB(lo:Nat)(st0 st:SortSt):Prop where
 pm:(arrOf st).Perm (arrOf st0)
 kd:kindOf st=kindOf st0
 pd:pendingOf st=pendingOf st0
 fl:failedOf st=failedOf st0
 lw:∀ i,i < lo->(arrOf st)[i]?=(arrOf st0)[i]?
theorem SB.rfl'(lo:Nat)(st:SortSt):SB lo st st:=⟨Array.Perm.refl _,rfl,rfl,rfl,fun _ _=>rfl⟩
theorem SB.size{lo:Nat}{st0 st:SortSt}(h:SB lo st0 st):(arrOf st).size=(arrOf st0).size:=h.pm.size_eq
theorem SB.mir{lo i j:Nat}{st0 st:SortSt}(h:SB lo st0 st)(h1:lo<=i)(h2:j<=(arrOf st0).size):SB lo st0 (setArr st (mirror (arrOf st) i j ((j - i) / 2))):=
 ⟨(mirror_perm _ _ _ _).trans h.pm,h.kd,h.pd,h.fl,fun k hk=>by
   show(mirror (arrOf st) i j ((j - i) / 2))[k]?=_;rw[getElem?_mirror_all (by rw[h.size];exact h2),if_neg (by omega)]
   exact h.lw k hk⟩
theorem SB.bub{lo i j:Nat}{st0 st:SortSt}(h:SB lo st0 st)(h1:lo<=j)(hj:j<=i)(h2:i < (arrOf st0).size):SB lo st0 (setArr st (bubble (arrOf st) i (i - j))):=
 ⟨(bubble_perm _ _ _).trans h.pm,h.kd,h.pd,h.fl,fun k hk=>by
   show(bubble (arrOf st) i (i - j))[k]?=_;rw[getElem?_bubble (by rw[h.size];exact h2) _ (by omega),if_neg (by omega),if_neg (by omega)]
   exact h.lw k hk⟩
noncomputable def SoK(κ:PyProof.Rows.KeyKind)(xs:Array Keyed)(lo n:Nat):Prop:=∀ i j,lo<=i->i<=j->j < lo+n -> κ.kle (KK κ xs i) (KK κ xs j)
noncomputable def NiK(κ:PyProof.Rows.KeyKind)(xs:Array Keyed)(lo n:Nat):Prop:=∀ i j,lo<=i->i<=j->j < lo+n -> κ.kle (KK κ xs j) (KK κ xs i)
theorem wpS_ltX(hL:LtOk prog w A E s κ.toKeyOrd (kyK κ) good kd){lo:Nat}{st0 st:SortSt}{i j:Nat}{Q:Option Bool->SortSt->Prop}(S:SB lo st0 st)(hk:kindOf st0=kd)(gd:∀ x∈(arrOf st0).toList,good x)(hi:i < (arrOf st0).size)(hj:j < (arrOf st0).size)
 (q:Q (some (κ.blt (KK κ (arrOf st) i) (KK κ (arrOf st) j))) st):wpS (model prog w) A E s (ltAt' i j) Q st:=by
 obtain⟨x,ex,mx⟩:=some_at (p:=arrOf st) (i:=i) (by rw[S.size];exact hi)
 obtain⟨y,ey,my⟩:=some_at (p:=arrOf st) (i:=j) (by rw[S.size];exact hj)
 have mem:∀ x,x∈(arrOf st).toList->good x:=fun x hx=>gd x ((Array.perm_iff_toList_perm.mp S.pm).mem_iff.mp hx);rw[KK_at ex,KK_at ey]at q;rw[ltAt'_eq];refine wpS_bind (wpS_get ?_);exact wpS_bind (wpS_elem ex (wpS_bind (wpS_elem ey (hL x y st _ (mem x mx) (mem y my) (S.kd.trans hk) q))))
theorem SoK.more{xs:Array Keyed}{lo n:Nat}(h:SoK κ xs lo n)(hn:1<=n)(z:κ.blt (KK κ xs (lo+n)) (KK κ xs (lo+n - 1))=false):SoK κ xs lo (n+1):=fun i j h1 h2 h3=>by
 by_cases e:j=lo+n
 · subst e
   by_cases e2:i=lo+n
   · subst e2;exact KeyOrd.kle_refl _
   exact KeyOrd.kle_trans (h i (lo+n - 1) h1 (by omega) (by omega)) z
 exact h i j h1 h2 (by omega)
variable{lo n:Nat}{st0 st:SortSt}
structure CnF(prog:Program)(w:World)(A:Around)(E:Value->Shared->Prop)(s:Shared)(κ:PyProof.Rows.KeyKind)(good:Keyed->Prop)(kd:SortKind)(lo n:Nat)(st0:SortSt):Prop where
 hL:LtOk prog w A E s κ.toKeyOrd (kyK κ) good kd
 hk:kindOf st0=kd
 gd:∀ x∈(arrOf st0).toList,good x
 hn:lo+n<=(arrOf st0).size
theorem wpS_asc(F:CnF prog w A E s κ good kd lo n st0)(S:SB lo st0 st){a:Nat}{Q:AS->SortSt->Prop}(ha:1<=a)(han:a<=n)(hs:SoK κ (arrOf st) lo a)
 (q:∀ m,a<=m->m<=n->SoK κ (arrOf st) lo m->(m=n ∨ κ.blt (KK κ (arrOf st) (lo+m)) (KK κ (arrOf st) (lo+m - 1))=true)->Q (none,m) st) :
 wpS (model prog w) A E s (forIn [a:n] ((none,a):AS) fun _=>ascF lo) Q st:=by
 have hn:=F.hn;refine wpS_forRange (I:=fun x c st'=>st'=st/\c=(none,x)/\SoK κ (arrOf st) lo x) ?_ ?_ ⟨rfl,rfl,hs⟩
 · rintro x c st' hax hxn ⟨rfl,rfl,hs'⟩
   refine wpS_bind (wpS_ltX F.hL S F.hk F.gd (i:=lo+x) (by omega) (by show lo+x - 1 < _;omega) ?_)
   cases e:κ.blt (KK κ (arrOf st') (lo+x)) (KK κ (arrOf st') (lo+x - 1))with
   | true=>exact wpS_pure (q x hax (Nat.le_of_lt hxn) hs' (.inr e))
   | false=>exact wpS_pure ⟨rfl,rfl,hs'.more (Nat.le_trans ha hax) e⟩
 rintro c st' ⟨rfl,rfl,hs'⟩;rw[Nat.max_eq_right han]at hs' ⊢;exact q n han (Nat.le_refl _) hs' (.inl rfl)
theorem eq_mir{xs:Array Keyed}{i j:Nat}(hj:j<=xs.size)(h:∀ k,i<=k->k < j->KK κ xs k=KK κ xs (j - 1))(k:Nat):KK κ (mirror xs i j ((j - i) / 2)) k=KK κ xs k:=KK_mirror_equal hj h k
theorem wpS_tail(F:CnF prog w A E s κ good kd lo n st0)(S:SB lo st0 st){m:Nat}{Q:Option Nat->SortSt->Prop}(m1:1<=m)(m2:m<=n)(ni:NiK κ (arrOf st) lo m)(q:∀ m st',SB lo st0 st'->1<=m->m<=n->SoK κ (arrOf st') lo m->Q (some m) st'):wpS (model prog w) A E s (tailF lo n m) Q st:=by
 have hn:=F.hn;have le:lo+m<=(arrOf st).size:=by rw[S.size];omega
 have S2:=S.mir (i:=lo) (j:=lo+m) (Nat.le_refl _) (by omega)
 refine wpS_bind (wpS_reverse (wpS_bind (wpS_asc F S2 m1 m2 (fun i j a1 a2 a3=>?_) fun m' a1 a2 a3 _=>wpS_pure (q m' _ S2 (Nat.le_trans m1 a1) a2 a3))));show κ.kle (KK κ (mirror _ _ _ _) _) (KK κ (mirror _ _ _ _) _);rw[KK_mirror le,KK_mirror le,if_pos (by omega),if_pos (by omega)]
 exact ni _ _ (by omega) (by omega) (by omega)
theorem wpS_descP(F:CnF prog w A E s κ good kd lo n st0)(S:SB lo st0 st){m:Nat}{Q:Option Nat->SortSt->Prop}(m2:m+1<=n)(hs:NiK κ (arrOf st) lo (m+1))(q:∀ m st',SB lo st0 st'->1<=m->m<=n->SoK κ (arrOf st') lo m->Q (some m) st'):wpS (model prog w) A E s (descP lo n m) Q st:=by
 have hn:=F.hn;have fin_:∀(y nq:Nat) (st':SortSt),SB lo st0 st'->m+1<=y->y<=n->NiK κ (arrOf st') lo y->(∀ i,lo+y - (nq+1)<=i->i < lo+y->KK κ (arrOf st') i=KK κ (arrOf st') (lo+y - 1))->nq+1<=y ->
  wpS (model prog w) A E s (if nq > 0 then do
   reverseSlice' (lo+y - (nq+1)) (lo+y)
   tailF lo n y
  else tailF lo n y) Q st':=fun y nq st' S y1 y2 ni eq h3=>by
  have le:lo+y<=(arrOf st').size:=by rw[S.size];omega
  refine wpS_ite (fun g=>wpS_bind (wpS_reverse (wpS_tail F (S.mir (by omega) (by omega)) (Nat.le_trans (Nat.succ_le_succ (Nat.zero_le _)) y1) y2 (fun i j a1 a2 a3=>?_) q))) fun _=>wpS_tail F S (Nat.le_trans (Nat.succ_le_succ (Nat.zero_le _)) y1) y2 ni q
  show κ.kle (KK κ (mirror _ _ _ _) _) (KK κ (mirror _ _ _ _) _);rw[eq_mir le eq,eq_mir le eq];exact ni i j a1 a2 a3
 refine wpS_bind (wpS_lift (wpAny_rule ⟨rfl,?_⟩));refine wpS_bind (wpS_mono (wpS_forRange (I:=fun x c st'=>∃ nq,c=(none,x,nq)/\SB lo st0 st'/\NiK κ (arrOf st') lo x/\nq+1<=x/\(∀ i,lo+x - (nq+1)<=i->i < lo+x->KK κ (arrOf st') i=KK κ (arrOf st') (lo+x - 1)))
  (Q:=fun c st'=>∃ x nq,c=(none,x,nq)/\m+1<=x/\x<=n/\SB lo st0 st'/\NiK κ (arrOf st') lo x/\nq+1<=x/\(∀ i,lo+x - (nq+1)<=i->i < lo+x->KK κ (arrOf st') i=KK κ (arrOf st') (lo+x - 1))) ?_ ?_ ⟨0,rfl,S,hs,by omega,fun i h1 h2=>by congr 1;omega⟩) ?_)
 · rintro x c st' hax hxn ⟨nq,rfl,S',hs',hq,he⟩
   have le:lo+x<=(arrOf st').size:=by rw[S'.size];omega
   have up:∀ xs:Array Keyed,(∀ k,KK κ xs k=KK κ (arrOf st') k) -> κ.kle (KK κ (arrOf st') (lo+x)) (KK κ (arrOf st') (lo+x - 1))->NiK κ xs lo (x+1):=fun xs hk hle i j h1 h2 h3=>by
    rw[hk,hk];by_cases e:j=lo+x
    · subst e
      by_cases e2:i=lo+x
      · subst e2;exact KeyOrd.kle_refl _
      exact KeyOrd.kle_trans hle (hs' i (lo+x - 1) h1 (by omega) (by omega))
    exact hs' i j h1 h2 (by omega)
   have one:∀(xs:Array Keyed) i,lo+(x+1) - (0+1)<=i->i < lo+(x+1)->KK κ xs i=KK κ xs (lo+(x+1) - 1):=fun xs i h1 h2=>by congr 1;omega
   have i1:lo+x < (arrOf st0).size:=by omega
   have i2:lo+x - 1 < (arrOf st0).size:=by omega
   refine wpS_bind (wpS_ltX F.hL S' F.hk F.gd (i:=lo+x) i1 i2 ?_);cases e:κ.blt (KK κ (arrOf st') (lo+x)) (KK κ (arrOf st') (lo+x - 1))with
   | true=>
     refine wpS_ite (fun _=>wpS_ite (fun g=>?_) (fun g=>?_)) (fun z=>absurd rfl z)
     · exact wpS_bind (wpS_reverse (wpS_pure ⟨0,rfl,S'.mir (by show lo<=lo+x - (nq+1);omega) (by show lo+x<=_;omega),up _ (eq_mir le he) (KeyOrd.kle_of_klt e),by omega,one _⟩))
     exact wpS_pure ⟨0,rfl,S',up _ (fun _=>rfl) (KeyOrd.kle_of_klt e),by omega,one _⟩
   | false=>
     refine wpS_bind (wpS_ltX F.hL S' F.hk F.gd (i:=lo+x - 1) i2 i1 ?_);cases e2:κ.blt (KK κ (arrOf st') (lo+x - 1)) (KK κ (arrOf st') (lo+x))with
     | true=>exact wpS_pure ⟨x,nq,rfl,hax,Nat.le_of_lt hxn,S',hs',hq,he⟩
     | false=>
       have eqx:KK κ (arrOf st') (lo+x)=KK κ (arrOf st') (lo+x - 1):=κ.total _ _ e e2;refine wpS_pure ⟨nq+1,rfl,S',up _ (fun _=>rfl) e2,by omega,fun i h1 h2=>?_⟩
       rw[show lo+(x+1) - 1=lo+x by omega]
       by_cases ei:i=lo+x
       · subst ei;rfl
       rw[eqx];exact he i (by omega) (by omega)
 · rintro c st' ⟨nq,rfl,S',hs',hq,he⟩
   rw[Nat.max_eq_right m2]at hs' hq he ⊢;exact⟨n,nq,rfl,m2,Nat.le_refl _,S',hs',hq,he⟩
 rintro c st' ⟨x,nq,rfl,x1,x2,S',hs',hq,he⟩;exact fin_ x nq st' S' x1 x2 hs' he hq
theorem wpS_count(F:CnF prog w A E s κ good kd lo n st0){Q:Option Nat->SortSt->Prop}(h1:1<=n)(q:∀ m st',SB lo st0 st'->1<=m->m<=n->SoK κ (arrOf st') lo m->Q (some m) st'):wpS (model prog w) A E s (countRun' lo n) Q st0:=by
 have hn:=F.hn;rw[countX_eq];have S0:=SB.rfl' lo st0;refine wpS_bind (wpS_asc F S0 (Nat.le_refl 1) h1 (fun i j a1 a2 a3=>by
  obtain rfl:i=j:=by omega
  exact KeyOrd.kle_refl _) fun m m1 m2 hs hor=>?_)
 refine wpS_ite (fun c=>wpS_pure (q m st0 S0 m1 m2 hs)) (fun c=>?_);have c:¬ m=n:=of_nbeq c;have lt:=hor.resolve_left c;have le0:lo+m<=(arrOf st0).size:=by omega
 have m3:m+1<=n:=by omega
 refine wpS_ite (fun g=>?_) (fun g=>?_)
 · refine wpS_bind (wpS_ltX F.hL S0 F.hk F.gd (i:=lo) (by omega) (by show lo+m - 1 < _;omega) ?_)
   cases er:κ.blt (KK κ (arrOf st0) lo) (KK κ (arrOf st0) (lo+m - 1))with
   | true=>exact wpS_pure (q m st0 S0 m1 m2 hs)
   | false=>
     have all:∀ k,lo<=k->k < lo+m->KK κ (arrOf st0) k=KK κ (arrOf st0) (lo+m - 1):=fun k k1 k2=>
      KeyOrd.kle_antisymm (hs k (lo+m - 1) k1 (by omega) (by omega)) (KeyOrd.kle_trans (show κ.kle (KK κ (arrOf st0) (lo+m - 1)) (KK κ (arrOf st0) lo)from er) (hs lo k (Nat.le_refl _) k1 k2))
     refine wpS_bind (wpS_reverse (wpS_descP F (S0.mir (i:=lo) (j:=lo+m) (Nat.le_refl _) le0) m3 (fun i j a1 a2 a3=>?_) q));show κ.kle (KK κ (mirror _ _ _ _) _) (KK κ (mirror _ _ _ _) _);rw[eq_mir le0 all,eq_mir le0 all];by_cases e:j=lo+m
     · subst e
       by_cases e2:i=lo+m
       · subst e2;exact KeyOrd.kle_refl _
       rw[all i a1 (by omega)];exact KeyOrd.kle_of_klt lt
     rw[all i a1 (by omega),all j (by omega) (by omega)];exact KeyOrd.kle_refl _
 have g:¬ m > 1:=g;obtain rfl:m=1:=by omega
 refine wpS_descP F S0 m3 (fun i j a1 a2 a3=>?_) q;by_cases e:i=j
 · subst e;exact KeyOrd.kle_refl _
 obtain rfl:i=lo:=by omega
 obtain rfl:j=i+1:=by omega
 exact KeyOrd.kle_of_klt lt
theorem wpS_binS(F:CnF prog w A E s κ good kd lo n st0){ok:Nat}{Q:Bool->SortSt->Prop}(S:SB lo st0 st)(h1:ok<=n)(hs:SoK κ (arrOf st) lo ok)
 (q:∀ st',SB lo st0 st'->SoK κ (arrOf st') lo n->Q true st'):wpS (model prog w) A E s (binarySort' lo n ok) Q st:=by
 have hn:=F.hn;rw[binarySort'_eq]
 dsimp only
 refine wpS_bind (wpS_mono (wpS_forRange (I:=fun k c st'=>c=(none,())/\SB lo st0 st'/\SoK κ (arrOf st') lo (min k n)) (Q:=fun c st'=>c=(none,())/\SB lo st0 st'/\SoK κ (arrOf st') lo n) ?_ ?_ ?_) ?_)
 · rintro k c st' a1 a2 ⟨rfl,S',so⟩
   rw[show min k n=k by omega]at so
   refine wpS_bind (wpS_mono (wpS_forRange (I:=fun x c st2=>st2=st' /\ ∃ l r,c=(none,l,r)/\l<=r/\r<=k/\r - l<=k - x/\(∀ i,lo<=i->i < lo+l -> κ.kle (KK κ (arrOf st') i) (KK κ (arrOf st') (lo+k)))/\(∀ i,lo+r<=i->i < lo+k -> κ.klt (KK κ (arrOf st') (lo+k)) (KK κ (arrOf st') i)))
    (Q:=fun c st2=>st2=st' /\ ∃ l r,c=(none,l,r)/\l<=k/\(∀ i,lo<=i->i < lo+l -> κ.kle (KK κ (arrOf st') i) (KK κ (arrOf st') (lo+k)))/\(∀ i,lo+l<=i->i < lo+k -> κ.klt (KK κ (arrOf st') (lo+k)) (KK κ (arrOf st') i))) ?_ ?_ ?_) ?_)
   · rintro x c st2 _ hx ⟨rfl,l,r,rfl,b1,b2,b3,b4,b5⟩
     dsimp only
     refine wpS_ite (fun g=>?_) (fun g=>?_)
     · obtain rfl:l=r:=by omega
       exact wpS_pure ⟨rfl,l,l,rfl,b2,b4,b5⟩
     refine wpS_bind (wpS_ltX F.hL S' F.hk F.gd (by omega) (by omega) ?_)
     dsimp only
     cases e:κ.blt (KK κ (arrOf st2) (lo+k)) (KK κ (arrOf st2) (lo+(l+r) / 2))with
     | true=>exact wpS_pure ⟨rfl,l,(l+r) / 2,rfl,by omega,by omega,by omega,b4,fun i c1 c2=>KeyOrd.klt_of_klt_of_kle e (so _ _ (by omega) c1 (by omega))⟩
     | false=>exact wpS_pure ⟨rfl,(l+r) / 2+1,r,rfl,by omega,by omega,by omega,fun i c1 c2=>KeyOrd.kle_trans (so i (lo+(l+r) / 2) c1 (by omega) (by omega)) e,b5⟩
   · rintro c st2 ⟨rfl,l,r,rfl,b1,b2,b3,b4,b5⟩
     obtain rfl:l=r:=by omega
     exact⟨rfl,l,l,rfl,b2,b4,b5⟩
   · exact⟨rfl,0,k,rfl,by omega,by omega,by omega,fun i c1 c2=>by omega,fun i c1 c2=>by omega⟩
   rintro c st2 ⟨rfl,l,r,rfl,b2,b4,b5⟩
   dsimp only
   rw[moveDown'_eq];refine wpS_bind (wpS_modify (wpS_pure ⟨rfl,S'.bub (by omega) (by omega) (by omega),?_⟩))
   rw[show min (k+1) n=k+1 by omega]
   have hz:lo+k < (arrOf st2).size:=by rw[S'.size];omega
   intro i j c1 c2 c3;show κ.kle (KK κ (bubble (arrOf st2) (lo+k) (lo+k - (lo+l))) i) (KK κ (bubble (arrOf st2) (lo+k) (lo+k - (lo+l))) j);rw[KK_bubble hz (by omega),KK_bubble hz (by omega),show lo+k - (lo+k - (lo+l))=lo+l by omega]
   repeat' split
   all_goals first
    | (exfalso;omega)
    | exact KeyOrd.kle_refl _
    | exact b4 _ (by omega) (by omega)
    | exact KeyOrd.kle_of_klt (b5 _ (by omega) (by omega))
    | exact so _ _ (by omega) (by omega) (by omega)
 · rintro c st' ⟨e,S',so⟩
   rw[show min (max (max ok 1) n) n=n by omega]at so
   exact⟨e,S',so⟩
 · refine⟨rfl,S,fun i j c1 c2 c3=>?_⟩
   by_cases e:ok=0
   · obtain rfl:i=j:=by omega
     exact KeyOrd.kle_refl _
   exact hs i j c1 c2 (by omega)
 rintro c st' ⟨rfl,S',so⟩;exact wpS_pure (q st' S' so)
end
section
variable{prog:Program}{w:World}{A:Around}{E:Value->Shared->Prop}{s:Shared}{κ:PyProof.Rows.KeyKind}{good:Keyed->Prop}{kd:SortKind}{a₀:Array Keyed}{st st':SortSt}{rs:List (List Keyed)}{rest:List Keyed}
theorem flat_le:∀{rs:List (List Keyed)},(∀ r∈rs,r≠[])->rs.length<=rs.flatten.length
 | [],_=>Nat.le_refl _
 | r::rs,h=>by
   have h1:=List.length_pos_iff.mpr (h r (List.mem_cons_self ..));have h2:=flat_le fun z hz=>h z (List.mem_cons_of_mem _ hz);rw[List.flatten_cons,List.length_append,List.length_cons];omega
theorem PD.psize(P:PD (kyK κ) good kd a₀ st rs rest):(pendingOf st).size=rs.length:=by
 have:=congrArg List.length P.pd;rw[List.length_map,rlay_len,Array.length_toList]at this;exact this
theorem PD.asize(P:PD (kyK κ) good kd a₀ st rs rest):rs.flatten.length+rest.length=a₀.size:=by
 rw[← P.pm.size_eq,← Array.length_toList,P.eq,List.length_append]
theorem two_of{rs:List (List Keyed)}{i:Nat}(h:i+1 < rs.length):∃ u a b v,rs=u++a::b::v/\u.length=i:=by
 refine⟨rs.take i,rs[i],rs[i+1],rs.drop (i+2),?_,by rw[List.length_take];omega⟩
 conv=>lhs;rw[← List.take_append_drop i rs]
 rw[List.drop_eq_getElem_cons (by omega),List.drop_eq_getElem_cons (by omega)]
theorem wpS_merge(hL:LtOk prog w A E s κ.toKeyOrd (kyK κ) good kd){i:Nat}{Q:Bool->SortSt->Prop}(P:PD (kyK κ) good kd a₀ st rs rest)(h:i+1 < rs.length)
 (q:∀ rs' st',PD (kyK κ) good kd a₀ st' rs' rest->rs'.length+1=rs.length->Q true st'):wpS (model prog w) A E s (mergeAt' i) Q st:=by
 obtain⟨u,a,b,v,rfl,rfl⟩:=two_of h;exact wpS_mergeAt hL P fun r st' P'=>q _ st' P' (by simp only[List.length_append,List.length_cons];omega)
theorem PD.run(P:PD (kyK κ) good kd a₀ st rs rest){n:Nat}(S:SB rs.flatten.length st st')(so:SoK κ (arrOf st') rs.flatten.length n)(n1:1<=n)(n2:rs.flatten.length+n<=a₀.size) :
 ∃ r rest',PD (kyK κ) good kd a₀ st' rs (r++rest')/\r.length=n/\Srd (kyK κ) r/\r≠[]:=by
 have size:(arrOf st').toList.length=a₀.size:=by rw[Array.length_toList,S.size,P.pm.size_eq]
 have e1:(arrOf st').toList.take rs.flatten.length=rs.flatten:=by
  refine List.ext_getElem? fun i=>?_;by_cases h:i < rs.flatten.length
  · rw[List.getElem?_take_of_lt h,Array.getElem?_toList,S.lw i h,← Array.getElem?_toList,P.eq,List.getElem?_append_left h]
  rw[List.getElem?_take,if_neg h,List.getElem?_eq_none (by omega)]
 have lr:(((arrOf st').toList.drop rs.flatten.length).take n).length=n:=by
  rw[List.length_take,List.length_drop,size];omega
 refine⟨((arrOf st').toList.drop rs.flatten.length).take n,((arrOf st').toList.drop rs.flatten.length).drop n,⟨S.pm.trans P.pm,S.kd.trans P.kd,S.fl.trans P.fl,?_,by rw[S.pd];exact P.pd,P.so,fun x hx=>P.gd x ((Array.perm_iff_toList_perm.mp S.pm).mem_iff.mp hx)⟩,lr,?_,?_⟩
 · rw[List.take_append_drop]
   conv=>lhs;rw[← List.take_append_drop rs.flatten.length (arrOf st').toList]
   rw[e1]
 · refine List.pairwise_iff_getElem.mpr fun i j hi hj hij=>?_
   rw[lr]at hi hj;have at_:∀ k (hk:k < (((arrOf st').toList.drop rs.flatten.length).take n).length),KK κ (arrOf st') (rs.flatten.length+k)=kyK κ (((arrOf st').toList.drop rs.flatten.length).take n)[k]:=fun k hk=>by
    refine KK_at ?_;rw[← Array.getElem?_toList,← List.getElem?_drop,← List.getElem?_take_of_lt (show k < n by omega)]
    exact List.getElem?_eq_getElem hk
   show κ.kle _ _;rw[← at_ i (by omega),← at_ j (by omega)]
   exact so _ _ (by omega) (by omega) (by omega)
 intro e;rw[e]at lr;simp at lr;omega
theorem PD.push{r rest':List Keyed}{pw lo n:Nat}(P:PD (kyK κ) good kd a₀ st rs (r++rest'))(so:Srd (kyK κ) r)(ne:r≠[])(hlo:rs.flatten.length=lo)(hn:r.length=n):PD (kyK κ) good kd a₀ (setPending st ((pendingOf st).push (lo,n,pw))) (rs++[r]) rest':=by
 subst hn;refine⟨P.pm,P.kd,P.fl,(by show(arrOf st).toList=_;rw[P.eq];simp),?_,fun z hz=>?_,P.gd⟩
 · show((pendingOf st).push _).toList.map _=_
   rw[Array.toList_push,List.map_append,P.pd,rlay_app,Nat.zero_add,hlo]
   rfl
 rcases List.mem_append.mp hz with y | y
 · exact P.so z y
 rw[List.mem_singleton.mp y];exact⟨so,ne⟩
theorem PD.pow(P:PD (kyK κ) good kd a₀ st rs rest)(i pw:Nat):PD (kyK κ) good kd a₀ (setPending st ((pendingOf st).modify i fun x=>(x.fst,x.2.fst,pw))) rs rest:=by
 refine⟨P.pm,P.kd,P.fl,P.eq,?_,P.so,P.gd⟩;show((pendingOf st).modify i _).toList.map _=_;rw[← P.pd];refine List.ext_getElem? fun k=>?_;rw[List.getElem?_map,List.getElem?_map,Array.getElem?_toList,Array.getElem?_toList,Array.getElem?_modify];split
 · cases (pendingOf st)[k]? <;> rfl
 rfl
noncomputable def mgF(size pw:Nat):StateT SortSt Sem (ForInStep (Option Unit×Unit)):=do
 let z ← get
 match if(pendingOf z).size > 1 then(pendingOf z)[(pendingOf z).size - 2]? else none with
 | some (_,_,od)=>
   if od<=pw then pure (.done (none,()))
   else do
    let b ← mergeAt' ((pendingOf z).size - 2)
    if(!b)=true then pure (.done (some (),()))else pure (.yield (none,()))
 | _=>pure (.done (none,()))
noncomputable def pushF(size lo n:Nat):StateT SortSt Sem (ForInStep (Option Unit×Nat)):=do
 let z ← get
 match(pendingOf z).back? with
 | some (s1,n1,_)=>do
   let c ← forIn [:size] ((none,()):Option Unit×Unit) fun _ _=>mgF size (power' size (2*s1+n1) (2*s1+n1+n1+n) size)
   match c.1 with
   | some r=>pure (.done (some r,lo))
   | none=>do
     modify fun s=>setPending s ((pendingOf s).modify ((pendingOf s).size - 1) fun x=>(x.fst,x.2.fst,power' size (2*s1+n1) (2*s1+n1+n1+n) size))
     modify fun s=>setPending s ((pendingOf s).push (lo,n,0))
     pure (.yield (none,lo+n))
 | _=>do
   modify fun s=>setPending s ((pendingOf s).push (lo,n,0))
   pure (.yield (none,lo+n))
noncomputable def runF(size:Nat)(c:Option Unit×Nat):StateT SortSt Sem (ForInStep (Option Unit×Nat)):=
 if c.2 ≥ size then pure (.done (none,c.2))
 else do
  let x ← countRun' c.2 (size - c.2)
  match x with
  | some found=>
    if found < minRun' size size 0 then do
     liftM (rule "list.sort.binary-insertion")
     let b ← binarySort' c.2 (min (size - c.2) (minRun' size size 0)) found
     if(!b)=true then pure (.done (some (),c.2))else pushF size c.2 (min (size - c.2) (minRun' size size 0))
    else pushF size c.2 found
  | _=>pure (.done (some (),c.2))
noncomputable def endF:StateT SortSt Sem (ForInStep (Option Unit×Unit)):=do
 let z ← get
 if(pendingOf z).size<=1 then pure (.done (none,()))
 else do
  let b ← mergeAt' (if Option.any (fun x=>decide (x < (pendingOf z)[(pendingOf z).size - 2+1]?.elim 0 fun x=>x.snd.fst)) (if(pendingOf z).size - 2 > 0 then Option.map (fun x=>x.snd.fst) (pendingOf z)[(pendingOf z).size - 2 - 1]? else none)=true then(pendingOf z).size - 2 - 1 else(pendingOf z).size - 2)
  if(!b)=true then pure (.done (some (),()))else pure (.yield (none,()))
theorem runsX_eq:sortRuns'=(do
 let z ← get
 let c ← forIn [:(arrOf z).size] ((none,0):Option Unit×Nat) fun _=>runF (arrOf z).size
 match c.1 with
 | some r=>pure r
 | none=>do
   let c ← forIn [:(arrOf z).size] ((none,()):Option Unit×Unit) fun _ _=>endF
   match c.1 with
   | some r=>pure r
   | none=>pure ()):=by kernel_rfl
theorem Srd.one:∀{rs:List (List Keyed)},(∀ r∈rs,Srd (kyK κ) r)->rs.length<=1->Srd (kyK κ) rs.flatten
 | [],_,_=>List.Pairwise.nil
 | [r],h,_=>by rw[List.flatten_singleton];exact h r (List.mem_singleton.mpr rfl)
 | _::_::_,_,h=>by simp at h
noncomputable def RnI(κ:PyProof.Rows.KeyKind)(good:Keyed->Prop)(kd:SortKind)(a₀:Array Keyed)(x:Nat)(c:Option Unit×Nat)(st':SortSt):Prop:=∃ lo rs rest,c=(none,lo)/\PD (kyK κ) good kd a₀ st' rs rest/\rs.flatten.length=lo/\(x<=lo∨a₀.size<=lo)
theorem wpS_push(hL:LtOk prog w A E s κ.toKeyOrd (kyK κ) good kd){r rest':List Keyed}{n x:Nat}{Q:ForInStep (Option Unit×Nat)->SortSt->Prop}(PR:PD (kyK κ) good kd a₀ st rs (r++rest'))(lr:r.length=n)(so:Srd (kyK κ) r)(ne:r≠[])(pr:x<=rs.flatten.length∨a₀.size<=rs.flatten.length)
 (q:∀ c st',RnI κ good kd a₀ (x+1) c st'->Q (.yield c) st'):wpS (model prog w) A E s (pushF a₀.size rs.flatten.length n) Q st:=by
 have n1:1<=n:=by rw[← lr];exact List.length_pos_iff.mpr ne
 have fl:∀{rs4:List (List Keyed)},rs4.flatten.length=rs.flatten.length->(rs4++[r]).flatten.length=rs.flatten.length+n:=fun h=>by
  rw[List.flatten_append,List.length_append,h];simp[lr]
 refine wpS_bind (wpS_get ?_);cases eb:(pendingOf st).back? with
 | none=>exact wpS_bind (wpS_modify (wpS_pure (q _ _ ⟨_,_,_,rfl,PR.push so ne rfl lr,fl rfl,by omega⟩)))
 | some bk=>
   obtain⟨s1,n2,pw1⟩:=bk;refine wpS_bind (wpS_mono (wpS_forRange (I:=fun x c st4=>c=(none,()) /\ ∃ rs4,PD (kyK κ) good kd a₀ st4 rs4 (r++rest')) (Q:=fun c st4=>c=(none,()) /\ ∃ rs4,PD (kyK κ) good kd a₀ st4 rs4 (r++rest')) ?_ (fun _ _ h=>h) ⟨rfl,rs,PR⟩) ?_)
   · rintro x4 c st4 _ _ ⟨rfl,rs4,P4⟩
     refine wpS_bind (wpS_get ?_);by_cases g:(pendingOf st4).size > 1
     · rw[if_pos g,Array.getElem?_eq_getElem (show(pendingOf st4).size - 2 < (pendingOf st4).size by omega)]
       refine wpS_ite (fun _=>?_) (fun _=>?_)
       · exact wpS_pure ⟨rfl,rs4,P4⟩
       refine wpS_bind (wpS_merge hL P4 (by have:=P4.psize;omega) fun rs5 st5 P5 _=>?_)
       exact wpS_pure ⟨rfl,rs5,P5⟩
     rw[if_neg g];exact wpS_pure ⟨rfl,rs4,P4⟩
   rintro c st4 ⟨rfl,rs4,P4⟩;have h4:=P4.asize;have h5:=PR.asize;have e:rs4.flatten.length=rs.flatten.length:=by omega
   exact wpS_bind (wpS_modify (wpS_bind (wpS_modify (wpS_pure (q _ _ ⟨_,_,_,rfl,(P4.pow _ _).push so ne e lr,fl e,by omega⟩)))))
theorem wpS_runs(hL:LtOk prog w A E s κ.toKeyOrd (kyK κ) good kd){Q:Unit->SortSt->Prop}(hk:kindOf st=kd)(hf:failedOf st=none)(hp:pendingOf st=#[])(gd:∀ x∈(arrOf st).toList,good x)
 (q:∀ st',(arrOf st').Perm (arrOf st)->failedOf st'=none->Srd (kyK κ) (arrOf st').toList->Q () st'):wpS (model prog w) A E s sortRuns' Q st:=by
 have P0:PD (kyK κ) good kd (arrOf st) st [] (arrOf st).toList:=⟨Array.Perm.refl _,hk,hf,rfl,by rw[hp];rfl,(fun r hr=>nomatch hr),gd⟩
 rw[runsX_eq];refine wpS_bind (wpS_get (wpS_bind (wpS_mono (wpS_forRange (I:=RnI κ good kd (arrOf st)) (Q:=fun c st'=>∃ lo rs,c=(none,lo)/\PD (kyK κ) good kd (arrOf st) st' rs []) ?_ ?_ ⟨0,[],_,rfl,P0,rfl,.inl (Nat.le_refl _)⟩) ?_)))
 · rintro x c st1 _ hx ⟨lo,rs,rest,rfl,P,rfl,pr⟩
   have sz:=P.asize;refine wpS_ite (fun g=>?_) (fun g=>?_)
   · have g:rs.flatten.length ≥ (arrOf st).size:=g
     obtain rfl:rest=[]:=List.length_eq_zero_iff.mp (by omega)
     exact wpS_pure ⟨_,rs,rfl,P⟩
   have g:¬ rs.flatten.length ≥ (arrOf st).size:=g;have es:(arrOf st1).size=(arrOf st).size:=P.pm.size_eq;refine wpS_bind (wpS_count ⟨hL,P.kd,P.gd,by show rs.flatten.length+_<=_;omega⟩ (by show 1<=_ - rs.flatten.length;omega) fun m st2 S2 m1 m2 so2=>?_)
   have m2:m<=(arrOf st).size - rs.flatten.length:=m2;refine wpS_ite (fun g2=>?_) (fun g2=>?_)
   · refine wpS_bind (wpS_lift (wpAny_rule ⟨rfl,?_⟩))
     have f1:m<=min ((arrOf st).size - rs.flatten.length) (minRun' (arrOf st).size (arrOf st).size 0):=by omega
     have f2:rs.flatten.length+min ((arrOf st).size - rs.flatten.length) (minRun' (arrOf st).size (arrOf st).size 0)<=(arrOf st).size:=by omega
     refine wpS_bind (wpS_binS ⟨hL,P.kd,P.gd,by rw[es];exact f2⟩ S2 f1 so2 fun st3 S3 so3=>?_)
     obtain⟨r,rest',PR,lr,so,ne⟩:=P.run S3 so3 (Nat.le_trans m1 f1) f2;exact wpS_push hL PR lr so ne pr fun c st' h=>h
   obtain⟨r,rest',PR,lr,so,ne⟩:=P.run S2 so2 m1 (by omega)
   exact wpS_push hL PR lr so ne pr fun c st' h=>h
 · rintro c st' ⟨lo,rs,rest,rfl,P,rfl,pr⟩
   have sz:=P.asize;obtain rfl:rest=[]:=List.length_eq_zero_iff.mp (by omega)
   exact⟨_,rs,rfl,P⟩
 rintro c st1 ⟨lo,rs,rfl,P⟩;have le:rs.length<=(arrOf st).size:=by
  have:=flat_le fun r hr=>(P.so r hr).2;have h2:=P.asize;rw[List.length_nil,Nat.add_zero]at h2;omega
 refine wpS_bind (wpS_mono (wpS_forRange (I:=fun x c st'=>c=(none,()) /\ ∃ rs,PD (kyK κ) good kd (arrOf st) st' rs []/\(rs.length<=1∨rs.length+x<=(arrOf st).size)) (Q:=fun c st'=>c=(none,()) /\ ∃ rs,PD (kyK κ) good kd (arrOf st) st' rs []/\rs.length<=1) ?_ ?_ ⟨rfl,rs,P,.inr (by omega)⟩) ?_)
 · rintro x c st2 _ hx ⟨rfl,rs2,P2,pr⟩
   have ps:=P2.psize;refine wpS_bind (wpS_get ?_);refine wpS_ite (fun g=>?_) (fun g=>?_)
   · exact wpS_pure ⟨rfl,rs2,P2,by omega⟩
   refine wpS_bind (wpS_merge hL P2 ?_ fun rs3 st3 P3 l3=>?_)
   · have le_:∀(c:Prop) [Decidable c] (n:Nat),(if c then n - 1 else n)<=n:=fun c _ n=>by split <;> omega
     exact Nat.lt_of_le_of_lt (Nat.succ_le_succ (le_ _ _)) (by omega)
   exact wpS_pure ⟨rfl,rs3,P3,by omega⟩
 · rintro c st2 ⟨rfl,rs2,P2,pr⟩
   exact⟨rfl,rs2,P2,by omega⟩
 rintro c st2 ⟨rfl,rs2,P2,l2⟩;refine wpS_pure (q st2 P2.pm P2.fl ?_);rw[P2.eq,List.append_nil];exact Srd.one (fun r hr=>(P2.so r hr).1) l2
end
section
variable{prog:Program}{w:World}{A:Around}{E:Value->Shared->Prop}{s:Shared}{κ:PyProof.Rows.KeyKind}{good:Keyed->Prop}{kd:SortKind}
noncomputable def kyV(κ:PyProof.Rows.KeyKind)(v:Value):κ.α:=(κ.keyOf v).getD κ.dflt
noncomputable def SrdV(κ:PyProof.Rows.KeyKind)(l:List Value):Prop:=l.Pairwise fun x y=>κ.kle (kyV κ x) (kyV κ y)
theorem out_of{vs:List Value}{xs:Array Keyed}(hp:xs.Perm (pairsOf vs))(hs:Srd (kyK κ) xs.toList):(xs.map (·.2)).toList.Perm vs/\SrdV κ (xs.map (·.2)).toList:=by
 have hl:xs.toList.Perm (vs.zip vs):=by rw[← pairsOf_toList];exact Array.perm_iff_toList_perm.mp hp
 have e1:(vs.zip vs).map Prod.snd=vs:=List.map_snd_zip (Nat.le_refl _);rw[Array.toList_map];refine⟨by have:=hl.map Prod.snd;rw[e1]at this;exact this,?_⟩
 refine List.pairwise_map.mpr (List.Pairwise.imp_of_mem (fun {x y} hx hy h=>?_) hs);have ex:=(mem_zip_self (hl.mem_iff.mp hx)).1;have ey:=(mem_zip_self (hl.mem_iff.mp hy)).1;have h:κ.kle (kyV κ x.1) (kyV κ y.1):=h;rw[ex,ey]at h;exact h
theorem Srd.short:∀{l:List Keyed},l.length < 2->Srd (kyK κ) l
 | [],_=>List.Pairwise.nil
 | [x],_=>List.pairwise_singleton _ _
 | _::_::_,h=>by simp at h;omega
noncomputable abbrev sortingH(h:Heap)(a:Addr)(vs:List Value):Heap:=((h.update a (Obj.mapSeq fun _=>#[])).push (seqObj "tuple" vs.toArray 0)).push (seqObj "list" #[] 0)
theorem list_sortG{a:Addr}{vs:List Value}{n:Nat}{P:PySem.Fin->Shared->Prop}(ho:s.heap.get? a=some (seqObj "list" vs.toArray n))(hz:vs.length<=sizeLine)
 (hK:2<=vs.length->wpAny (model prog w) A (keyKind' vs.toArray) (fun k s'=>s'={ s with heap:=sortingH s.heap a vs } /\ k=kd) E { s with heap:=sortingH s.heap a vs })
 (hL:LtOk prog w A E { s with heap:=sortingH s.heap a vs } κ.toKeyOrd (kyK κ) good kd) (gd:∀ v∈vs,good (v,v))
 (h:∀ out:Array Value,out.toList.Perm vs->SrdV κ out.toList->P (.done (.ret .none)) { s with heap:=sortedHeap s.heap a vs out }) :
 wpAny (model prog w) A (Builtin.«list.sort» ⟨[.ref a],[]⟩) P E s:=by
 rw[list_sort_plain];have ha:a < s.heap.objs.size:=Heap.lt_size ho;refine wpAny_bind (listItems_at ho rfl ?_);refine wpAny_bind (listUpdate_at ho rfl ?_ (by rw[List.size_toArray];exact hz))
 obtain⟨e1,h1⟩:∃ e1,(s.heap.update a (Obj.mapSeq fun _=>#[])).get? a=some (seqObj "list" #[] e1):=⟨_,get?_update_seq ho (fun _=>#[])⟩;refine wpAny_bind (seqEpoch_at h1 rfl ?_);refine wpAny_bind (wpAny_newTuple ?_ (by exact hz))
 refine wpAny_bind (wpAny_newList ?_);refine wpAny_holding ?_;have h6:(sortingH s.heap a vs).get? a=some (seqObj "list" #[] e1):=by
  rw[Heap.get?_push_ne _ _ _ (by rw[size_push',Heap.size_update];exact Nat.ne_of_lt (Nat.lt_succ_of_lt ha)),Heap.get?_push_ne _ _ _ (by rw[Heap.size_update];exact Nat.ne_of_lt ha)]
  exact h1
 show wpAny (model prog w) A _ P E { s with heap:=sortingH s.heap a vs }
 dsimp only
 have sz:vs.toArray.size=vs.length:=by simp
 have fin_:∀ xs:Array Keyed,xs.Perm (pairsOf vs)->Srd (kyK κ) xs.toList->P (.done (.ret .none)) { s with heap:=sortedHeap s.heap a vs (xs.map (·.2)) }:=fun xs p1 p2=>by
  obtain⟨q1,q2⟩:=out_of p1 p2;exact h _ q1 q2
 by_cases g:vs.toArray.size < 2
 · rw[if_pos g,if_pos g]
   refine wpAny_bind (wpAny_pure ?_);rw[StateT.run_pure];refine wpAny_bind (wpAny_pure ?_)
   dsimp only
   refine wpAny_bind (seqEpoch_at h6 rfl ?_);refine wpAny_bind (listUpdate_at h6 rfl ?_ (hsz2:=by rw[Array.size_map];show(pairsOf vs).size<=_;rw[pairsOf_size];omega))
   simp only[bne_self_eq_false,Bool.false_eq_true,if_false];refine wpAny_pure (fin_ (vs.toArray.zip vs.toArray) (Array.Perm.refl _) ?_);exact Srd.short (by rw[Array.length_toList];show(pairsOf vs).size < 2;rw[pairsOf_size];omega)
 rw[if_neg g,if_neg g];refine wpAny_bind (wpAny_mono (hK (by omega)) ?_ fun _ _ e=>e)
 rintro k s' ⟨rfl,rfl⟩;refine wpAny_bind (wpAny_mono (wpS_runs hL (st:=SortSt.mk' k (vs.toArray.zip vs.toArray) #[] 7 none)
  (Q:=fun _ st'=>(arrOf st').Perm (pairsOf vs)/\failedOf st'=none/\Srd (kyK κ) (arrOf st').toList) rfl rfl rfl (fun x hx=>?_) fun st' a1 a2 a3=>⟨a1,a2,a3⟩) ?_ fun _ _ e=>e)
 · have hx:x∈(pairsOf vs).toList:=hx
   rw[pairsOf_toList]at hx;obtain⟨e,m⟩:=mem_zip_self hx;obtain⟨x1,x2⟩:=x;cases e;exact gd _ m
 rintro⟨⟨⟩,st'⟩ s' ⟨rfl,hp,hf,hs⟩
 dsimp only
 refine wpAny_bind (seqEpoch_at h6 rfl ?_);refine wpAny_bind (listUpdate_at h6 rfl ?_ (hsz2:=by refine Nat.le_trans (Nat.le_of_eq ((Array.size_map ..).trans (hp.size_eq.trans (pairsOf_size _)))) ?_;omega))
 rw[hf];simp only[bne_self_eq_false,Bool.false_eq_true,if_false];exact wpAny_pure (fin_ _ hp hs)
theorem sortedC{r:Addr}{R:Heap->List Value->Prop}{κ:Heap->PyProof.Rows.KeyKind}{good:Heap->Keyed->Prop}{Q:Value->Shared->Prop}(hh:A.handled=none)
 (hC:∀(A':Around) (E':Value->Shared->Prop) (Q':List Value->Shared->Prop),A'.handled=none->(∀ h' tk acc,(∀ b o,s.heap.get? b=some o->h'.get? b=some o)->s.heap.objs.size<=h'.objs.size->R h' acc->acc.length<=sizeLine->Q' acc { s with heap:=h',toks:=tk })->wpAny (model prog w) A' (collect (.ref r)) Q' E' s)
 (hK:∀ h' acc (s':Shared),R h' acc->(∀ b o,h'.get? b=some o->s'.heap.get? b=some o)->2<=acc.length -> ∀ Q':SortKind->Shared->Prop,Q' kd s' -> ∀ A' E',wpAny (model prog w) A' (keyKind' acc.toArray) Q' E' s')
 (hL:∀ h' acc (s':Shared) A' E',R h' acc->(∀ b o,h'.get? b=some o->s'.heap.get? b=some o)->LtOk prog w A' E' s' (κ h').toKeyOrd (kyK (κ h')) (good h') kd) (gd:∀ h' acc,R h' acc -> ∀ v∈acc,good h' (v,v))
 (h:∀ h1 h' tk a acc (out:Array Value) e,R h1 acc->(∀ b o,s.heap.get? b=some o->h1.get? b=some o)->(∀ b o,h1.get? b=some o->h'.get? b=some o)->s.heap.objs.size<=h1.objs.size->h1.objs.size<=a->h'.get? a=some (seqObj "list" out e)->out.toList.Perm acc->SrdV (κ h1) out.toList->Q (.ref a) { s with heap:=h',toks:=tk }) :
 wpAny (model prog w) A (call (.builtin "sorted") [.ref r]) Q E s:=by
 refine Calls.call_function_entry kind_sorted plain_sorted entry_sorted (args_sorted1 _) ?_;unfold Builtin.«sorted»;refine wpAny_bind (m:=checkCount "sorted" 1 1 _) (wpAny_pure ?_);refine wpAny_bind (hC _ _ _ hh fun h' tk acc hk hsz hacc hl=>?_);refine wpAny_bind (wpAny_newList ?_ hl);have hoL:(h'.push (seqObj "list" acc.toArray 0)).get? h'.objs.size=some (seqObj "list" acc.toArray 0):=Heap.get?_push_size _ rfl;have kp:∀ b o,h'.get? b=some o->(sortingH (h'.push (seqObj "list" acc.toArray 0)) h'.objs.size acc).get? b=some o:=fun b o hb'=>by
  have lt:=Heap.lt_size hb';rw[Heap.get?_push_ne _ _ _ (by rw[size_push',Heap.size_update,size_push'];exact Nat.ne_of_lt (Nat.lt_succ_of_lt (Nat.lt_succ_of_lt lt))),Heap.get?_push_ne _ _ _ (by rw[Heap.size_update,size_push'];exact Nat.ne_of_lt (Nat.lt_succ_of_lt lt)),Heap.get?_update_other _ _ (Ne.symm (Nat.ne_of_lt lt))]
  exact Heap.get?_push_of_some _ hb'
 refine wpAny_bind (wpAny_holding (wpAny_call_entry slot_list_sort ⟨_,hoL,rfl⟩ entry_list_sort (list_sortG (κ:=κ h') (good:=good h') (kd:=kd) hoL hl (fun h2=>hK h' acc _ hacc kp h2 _ ⟨rfl,rfl⟩ _ _) (hL h' acc _ _ _ hacc kp) (gd h' acc hacc) fun out a1 a2=>⟨_,rfl,?_⟩) (args_list_sort _)));obtain⟨e,he⟩:=sortedHeap_at (out:=out) hoL;refine wpAny_pure ⟨_,rfl,h h' _ tk h'.objs.size acc out e hacc hk (fun b o hb'=>?_) hsz (Nat.le_refl _) he a1 a2⟩;have hlt:=Heap.lt_size hb';rw[sortedHeap_old (Nat.ne_of_lt hlt) (by rw[size_push'];exact Nat.lt_succ_of_lt hlt)]
 exact Heap.get?_push_of_some _ hb'
end
noncomputable def κI:PyProof.Rows.KeyKind where
 α:=Int
 blt:=fun a b=>decide (a < b)
 irrefl:=fun a=>by simp
 trans:=fun a b c h1 h2=>by simp at *;omega
 negTrans:=fun a b c h=>by simp at *;omega
 total:=fun a b h1 h2=>by simp at *;omega
 keyOf:=fun v=>match v with | .int n _=>some n | _=>none
 dflt:=0
section
variable{prog:Program}{w:World}{A:Around}{E:Value->Shared->Prop}{s:Shared}
noncomputable def goodI(x:Keyed):Prop:=∃ n t,x.1=.int n t
theorem ltok_int:LtOk prog w A E s κI.toKeyOrd (kyK κI) goodI oneType':=by
 rintro⟨_,x2⟩ ⟨_,y2⟩ st Q ⟨n,t,rfl⟩ ⟨m,u,rfl⟩ hk q;rw[lt'_eq];refine wpS_bind (wpS_get ?_);rw[hk,keyLt'_oneType];refine wpS_bind (wpS_lift (wpAny_attempt (oneLt_int ⟨rfl,?_⟩)));exact wpS_pure q
theorem kind_ints{acc:List Value}{ns:List Int}(hI:IntsAre acc ns)(h2:2<=acc.length):keyKind' acc.toArray=pure oneType':=by
 match acc,hI,h2 with
 | v₁ :: v₂ :: rest,hI,_=>exact keyKind_ints hI
theorem call_sortedDG{X:Cx}:CallR X (.builtin "sorted") (fun xs H Q=>∃(a:Addr) (r:MRow),xs=[.ref a]/\H a=some (.dK (kvs r))/\X.calm=true /\ ∀(p:Addr) (ns:List Int),H p=none->ns.Perm (r.map (·.1))->ns.Pairwise (· <= ·)->Q (.ref p) (upd H p (.lst (ns.map V.int)))):=by
 intro pins s σ H xs us Q I rr h;obtain⟨a,r,rfl,ha,hc,q⟩:=h;obtain⟨u,rfl,rx⟩:=vals1 rr;cases rx;obtain⟨z,hsys,vs,rel,dd⟩:=dk_rd I.hok (.inl ha);obtain⟨ep,hat⟩:=dd.dictAt;have lenKV:(kvs r).length=vs.length:=Paired.length rel;rw[kvs_len]at lenKV z;have intz:∀ acc:Array Value,ItemsOf (fun i v=>∃ k x,vs[i]?=some (k,x)/\(mixKind X.prog X.w).is k v=true) acc vs.length->IntsAre acc.toList (r.map (·.1)):=fun acc hacc=>by
  refine ints_at _ _ (by rw[Array.length_toList,hacc.1,List.length_map];omega) fun i v e=>?_
  obtain⟨k,x,e1,e2⟩:=hacc.2 i v (by rw[← Array.getElem?_toList];exact e)
  obtain⟨y,e3,_⟩:=kv_get rel e1;have hi:i < (kvs r).length:=(List.getElem?_eq_some_iff.mp e3).1;rw[kvs_len]at hi;have e4:(kvs r)[i]?=some (Sum.inl r[i].1,V.int r[i].2):=by
   unfold kvs;rw[List.getElem?_map,List.getElem?_eq_getElem hi]
   rfl
  rw[e4]at e3;cases e3;rcases keyIs_shape (show keyIs (Sum.inl r[i].1) v=true from e2)with ⟨j,t,e5,rfl⟩ | ⟨x,t,e5,rfl⟩
  · cases e5
    exact⟨_,t,by rw[List.getElem?_map,List.getElem?_eq_getElem hi];rfl,rfl⟩
  cases e5
 refine sortedC (κ:=fun _=>κI) (good:=fun _=>goodI) (kd:=oneType') (R:=fun _ acc=>IntsAre acc (r.map (·.1))) (I.ok.hd hc) (fun A' E' Q' hA h=>?_) (fun h' acc s' hI _ h2 Q' q' A' E'=>?_) (fun h' acc s' A' E' _ _=>ltok_int) (fun h' acc hI v hv=>?_) fun h1 h' tk b acc out e hI hk1 hk2 hs1 hb ho a1 a2=>?_
 · exact collect_src (W.kdl_dict (knd:=mixKind X.prog X.w) (kvs:=vs) (ep:=ep) hsys) hA hat (by omega) fun h' tk acc hk hsz hacc=>h h' tk acc.toList hk (Nat.le_of_lt hsz) (intz acc hacc) (by rw[Array.length_toList,hacc.1];omega)
 · rw[kind_ints hI h2]
   exact wpAny_pure q'
 · obtain⟨n,t,e⟩:=hI.all v hv
   exact⟨n,t,e⟩
 have hv:∀ v∈out.toList,∃ n t,v=.int n t:=fun v hv=>hI.all v (a1.mem_iff.mp hv);have io:=intsAre_map out.toList hv;have pm:(out.toList.map numOf).Perm (r.map (·.1)):=by
  have:=a1.map numOf;rw[hI.nums]at this;exact this
 have so:(out.toList.map numOf).Pairwise (· <= ·):=by
  refine List.pairwise_map.mpr (List.Pairwise.imp_of_mem (fun {x y} hx hy h=>?_) a2);obtain⟨n,t,rfl⟩:=hv x hx;obtain⟨m,u,rfl⟩:=hv y hy;have h:decide (m < n)=false:=h;show n<=m;simp at h;exact h
 have rv:=vals_ints io;have hlen:((out.toList.map numOf).map V.int).length<=sizeLine:=by
  rw[List.length_map,pm.length_eq,List.length_map];exact z
 refine⟨.ref b,_,I.laid (t':=tk) (o:=.lst ((out.toList.map numOf).map V.int)) (fun c o e=>hk2 c o (hk1 c o e)) (Nat.le_trans hs1 hb) ⟨hlen,out.toList,e,rv,by rw[Array.toArray_toList];exact ho⟩,rfl,q b _ (I.hok.fresh (Nat.le_trans hs1 hb)) pm so⟩
end
noncomputable def pairAt(h:Heap):Value->Option (Int×Int)
 | .ref a=>match h.get? a with
   | some o=>match o.data with
     | .seq xs _=>match xs.toList with
       | [.int x _,.int y _]=>some (x,y)
       | _=>none
     | _=>none
   | none=>none
 | _=>none
noncomputable def ltP(a b:Int×Int):Bool:=decide (a.1 < b.1∨(a.1=b.1/\a.2 < b.2))
noncomputable def leP(a b:Int×Int):Prop:=ltP b a=false
theorem leP.antisymm{a b:Int×Int}(h:leP a b)(g:leP b a):a=b:=by
 have h1:=of_decide_eq_false h;have g1:=of_decide_eq_false g;exact Prod.ext (by omega) (by omega)
noncomputable def κP(h:Heap):PyProof.Rows.KeyKind where
 α:=Int×Int
 blt:=ltP
 irrefl:=fun a=>decide_eq_false (by omega)
 trans:=fun a b c h1 h2=>by
  have:=of_decide_eq_true h1;have:=of_decide_eq_true h2;exact decide_eq_true (by omega)
 negTrans:=fun a b c h=>by
  have:=of_decide_eq_true h;by_cases g:a.1 < b.1∨(a.1=b.1/\a.2 < b.2)
  · exact .inl (decide_eq_true g)
  exact .inr (decide_eq_true (by omega))
 total:=fun a b h1 h2=>leP.antisymm (b:=b) h2 h1
 keyOf:=pairAt h
 dflt:=(0,0)
noncomputable def PairW(h:Heap)(v:Value)(p:Int×Int):Prop:=∃ a o n t u,v=.ref a/\h.get? a=some o/\o.cls=.type "tuple" /\ o.data=.seq #[.int p.1 t,.int p.2 u] n
theorem PairW.key{h:Heap}{v:Value}{p:Int×Int}(g:PairW h v p):pairAt h v=some p:=by
 obtain⟨a,o,n,t,u,rfl,e1,_,e2⟩:=g;unfold pairAt;simp only[e1,e2]
noncomputable def kP(h:Heap)(v:Value):Int×Int:=(pairAt h v).getD (0,0)
section
variable{prog:Program}{w:World}{A:Around}{E:Value->Shared->Prop}{s:Shared}{h:Heap}
noncomputable def goodP(h:Heap)(x:Keyed):Prop:=∃ p,PairW h x.1 p
theorem ltok_pair(hk:∀ b o,h.get? b=some o->s.heap.get? b=some o):LtOk prog w A E s (κP h).toKeyOrd (kyK (κP h)) (goodP h) (tuples' true):=by
 rintro⟨x1,x2⟩ ⟨y1,y2⟩ st Q ⟨p,gx⟩ ⟨q,gy⟩ hk' qq;have ex:kyK (κP h) (x1,x2)=p:=by show(pairAt h x1).getD _=_;rw[gx.key];rfl
 have ey:kyK (κP h) (y1,y2)=q:=by show(pairAt h y1).getD _=_;rw[gy.key];rfl
 rw[ex,ey]at qq;obtain⟨a,o,n,t,u,rfl,e1,_,e2⟩:=gx;obtain⟨a',o',n',t',u',rfl,e1',_,e2'⟩:=gy;rw[lt'_eq];refine wpS_bind (wpS_get ?_);rw[hk'];refine wpS_bind (wpS_lift (wpAny_attempt (W.kat_lt (hk _ _ e1) e2 (hk _ _ e1') e2' ?_)));show W.KatLex prog w A true false _ [(Value.int p.1 t,Value.int q.1 t'),(Value.int p.2 u,Value.int q.2 u')] 0 s;have fin:∀ b:Bool,b=ltP p q->wpS (model prog w) A E s (pure (some b)) Q st:=fun b e=>wpS_pure (by rw[e];exact qq)
 refine W.kat_cons (wpAny_eqBool_int ?_);refine W.kat_go (fun h1=>W.kat_yes ?_) (fun h1=>W.kat_no (oneLt_int ⟨rfl,?_⟩))
 · have h1:p.1=q.1:=by simpa using h1
   refine W.kat_cons (wpAny_eqBool_int ?_);refine W.kat_go (fun h2=>W.kat_yes (W.kat_nil ⟨rfl,?_⟩)) (fun h2=>W.kat_no (W.kat_one _ _ (lt_int ⟨rfl,?_⟩)))
   · have h2:p.2=q.2:=by simpa using h2
     exact fin _ (decide_eq_false (by omega)).symm
   refine fin _ ?_;show decide (p.2 < q.2)=decide _;rw[decide_eq_decide];omega
 have h1:¬ p.1=q.1:=by simpa using h1
 refine fin _ ?_;show decide (p.1 < q.1)=decide _;rw[decide_eq_decide];omega
theorem kind_pairs{acc:List Value}{ps:List (Int×Int)}(hP:Paired (PairW h) acc ps)(hk:∀ b o,h.get? b=some o->s.heap.get? b=some o)(h2:2<=acc.length){Q:SortKind->Shared->Prop}(q:Q (tuples' true) s):wpAny (model prog w) A (keyKind' acc.toArray) Q E s:=by
 have tp:∀{acc:List Value}{ps:List (Int×Int)},Paired (PairW h) acc ps -> ∃ fs:List Value,W.KatTups s.heap acc fs/\fs.length=acc.length /\ ∀ v∈fs,∃ n t,v=.int n t:=fun hP=>by
  induction hP with
  | nil=>exact⟨[],.nil,rfl,fun v hv=>nomatch hv⟩
  | cons g _ ih=>
    obtain⟨fs,a1,a2,a3⟩:=ih;obtain⟨a,o,n,t,u,rfl,e1,e2,e3⟩:=g;refine⟨_::fs,W.KatTups.cons (hk _ _ e1) e2 e3 rfl a1,by rw[List.length_cons,a2];rfl,fun v hv=>?_⟩
    rcases List.mem_cons.mp hv with z | z
    · exact⟨_,_,z⟩
    exact a3 v z
 obtain⟨fs,a1,a2,a3⟩:=tp hP;refine W.kat_kind (T:=.type "int") a1 (by omega) (fun v hv=>?_) rfl q
 obtain⟨n,t,rfl⟩:=a3 v hv;exact fun A Q E s _ q=>wpAny_pure q
end
noncomputable def PairV(H:Hp)(v:V)(p:Int×Int):Prop:=∃ a,v=.ref a/\H a=some (.tup [.int p.1,.int p.2])
section
variable{prog:Program}{w:World}{A:Around}{E:Value->Shared->Prop}{s:Shared}
theorem collectX_code{K:Type}[DecidableEq K]{knd:PySem.KeyKind prog w K}{r d:Addr}{kvs:List (K×Value)}{ep:Nat}{R:Result->Shared->Prop}(hh:A.handled=none)(hv:s.heap.IsItemsView r d)(hd:Heap.DictAt knd s.heap d kvs ep)(hr:r < s.heap.objs.size)(hdl:d < s.heap.objs.size)(hn:kvs.length<=sizeLine)
 (hR:∀ h' tk acc' c' (as:List Addr),(∀ b o,s.heap.get? b=some o->h'.get? b=some o)->h'.get? s.heap.objs.size=some { cls:=.type "list",dict:=none,data:=.seq acc' c',slots:=#[] } -> as.length=kvs.length->(∃ lo,s.heap.objs.size<=lo/\W.KdxG knd kvs lo h' as)->acc'.toList=as.map Value.ref->R (.ok (.ret (.ref s.heap.objs.size))) { s with heap:=h',toks:=tk }) :
 codeAny (model prog w) A (.builtin "proto.collect" ⟨[.ref r],[]⟩) R s:=by
 refine codeAny_builtin PySem.F.entry_proto_collect ?_;rw[Around.under_plainId PySem.F.plain_proto_collect _];show wpAny _ A.in1 (newList [] >>= fun l=>again (.builtin "list.__iadd__" ⟨[l,.ref r],[]⟩)) _ _ s;refine wpAny_bind (wpAny_newObj_type ?_);refine wpAny_pure ⟨plainId_quiet PySem.F.plain_list_iadd _,codeAny_builtin PySem.F.entry_list_iadd ?_⟩;rw[Around.under_plainId PySem.F.plain_list_iadd _];have hS₁:(s.heap.push { cls:=.type "list",data:=.seq ([]:List Value).toArray }).get? s.heap.objs.size=some { cls:=.type "list",data:=.seq ([]:List Value).toArray }:=Heap.get?_push_size _ rfl;exact W.kdx_extend (A:=A) (R:=R) (s:={ s with heap:=s.heap.push { cls:=.type "list",data:=.seq ([]:List Value).toArray } }) hh (let⟨o,e,g⟩:=hv;⟨o,Heap.get?_push_of_some _ e,g⟩) (hd.at fun o e=>Heap.get?_push_of_some _ e) _ (Nat.ne_of_gt hr) (Nat.ne_of_lt hdl) (.ref s.heap.objs.size) _ hS₁ (fun h' tk acc' c' as hk hS' hl hG hacc=>
  hR h' tk acc' c' as (fun b o e=>hk b o (Nat.ne_of_lt (Heap.lt_size e)) (Heap.get?_push_of_some _ e)) hS' hl ⟨_,by show s.heap.objs.size<=(s.heap.push _).objs.size;rw[size_push'];exact Nat.le_succ _,hG⟩ hacc) hn
theorem collectX{K:Type}[DecidableEq K]{knd:PySem.KeyKind prog w K}{r d:Addr}{kvs:List (K×Value)}{ep:Nat}{Q:List Value->Shared->Prop}(hh:A.handled=none)(hv:s.heap.IsItemsView r d)(hd:Heap.DictAt knd s.heap d kvs ep)(hr:r < s.heap.objs.size)(hdl:d < s.heap.objs.size)(hn:kvs.length<=sizeLine)
 (h:∀ h' tk (as:List Addr),(∀ b o,s.heap.get? b=some o->h'.get? b=some o)->s.heap.objs.size < h'.objs.size->as.length=kvs.length->(∃ lo,s.heap.objs.size<=lo/\W.KdxG knd kvs lo h' as)->Q (as.map Value.ref) { s with heap:=h',toks:=tk }) :
 wpAny (model prog w) A (collect (.ref r)) Q E s:=by
 unfold collect;refine wpAny_bind (wpAny_runValue (collectX_code hh hv hd hr hdl hn fun h' tk acc' c' as hk hS' hl hG hacc=>?_));show wpAny _ A (load s.heap.objs.size >>= _) _ _ _;refine wpAny_bind (wpAny_load hS' ?_);exact wpAny_pure (by
  show Q acc'.toList _;rw[hacc];exact h h' tk as hk (Heap.lt_size hS') hl hG)
end
theorem paired_of_get{α β:Type}{F:α -> β -> Prop}:∀{xs:List α}{ys:List β},xs.length=ys.length->(∀(j:Nat) x y,xs[j]?=some x->ys[j]?=some y->F x y)->Paired F xs ys
 | [],[],_,_=>.nil
 | [],_::_,h,_=>by simp at h
 | _::_,[],h,_=>by simp at h
 | x::xs,y::ys,h,g=>.cons (g 0 x y rfl rfl) (paired_of_get (by simpa using h) fun j a b e1 e2=>g (j+1) a b (by simpa using e1) (by simpa using e2))
noncomputable def adr:Value->Addr
 | .ref a=>a
 | _=>0
theorem pairs_key{h:Heap}:∀{its:List Value}{ps:List (Int×Int)},Paired (PairW h) its ps->its.map (kP h)=ps/\(∀ v∈its,PairW h v (kP h v))/\its.map (fun v=>Value.ref (adr v))=its
 | _,_,.nil=>⟨rfl,fun v hv=>(nomatch hv),rfl⟩
 | _,_,.cons (a:=v) (b:=p) g gs=>by
   obtain⟨a1,a2,a3⟩:=pairs_key gs;have ek:kP h v=p:=by show(pairAt h v).getD _=p;rw[g.key];rfl
   refine⟨congr (congrArg List.cons ek) a1,fun u hu=>?_,?_⟩
   · rcases List.mem_cons.mp hu with z | z
     · rw[z,ek]
       exact g
     exact a2 u z
   obtain⟨a,_,_,_,_,rfl,_⟩:=g;rw[List.map_cons,a3]
   rfl
theorem call_sortedIP{X:Cx}:CallR X (.builtin "sorted") (fun xs H Q=>∃(v d:Addr) (r:MRow),xs=[.ref v]/\H v=some (ViewO v d)/\H d=some (.dK (kvs r))/\X.calm=true /\ ∀(l:Addr) (ws:List V) (qs:List (Int×Int)) (H':Hp),Same H H'->H l=none->H' l=some (.lst ws)->Paired (PairV H') ws qs->qs.Perm r->qs.Pairwise leP->Q (.ref l) H'):=by
 intro pins s σ H xs us Q I rr h;obtain⟨v,d,r,rfl,hv,hd,hc,q⟩:=h;obtain⟨u,rfl,rx⟩:=vals1 rr;cases rx;obtain⟨pv,_,_⟩:=(show ObjOk X.prog X.w H s.heap v (ViewO v d)from I.hok v _ hv);obtain⟨z,hsys,vs,rel,dd⟩:=dk_rd I.hok (.inl hd);obtain⟨ep,hat⟩:=dd.dictAt;have lenKV:(kvs r).length=vs.length:=Paired.length rel;rw[kvs_len]at lenKV z;refine sortedC (κ:=κP) (good:=goodP) (kd:=tuples' true) (R:=fun h' acc=>∃ as:List Addr,acc=as.map Value.ref/\as.Nodup/\(∀ a∈as,s.heap.objs.size<=a)/\Paired (PairW h') acc r) (I.ok.hd hc) (fun A' E' Q' hA h=>?_) (fun h' acc s' hI hk h2 Q' q' A' E'=>?_) (fun h' acc s' A' E' hI hk=>ltok_pair hk) (fun h' acc hI v hv=>?_) fun h1 h' tk b acc out eo hI hk1 hk2 hs1 hb ho b1 b2=>?_
 · refine collectX (knd:=mixKind X.prog X.w) hA pv hat (I.hok.lt hv) (I.hok.lt hd) (by omega) fun h' tk as hk hsz hl hG=>?_
   obtain⟨lo,hlo,hG⟩:=hG;refine h h' tk _ hk (Nat.le_of_lt hsz) ⟨as,rfl,hG.rise.imp fun h=>Nat.ne_of_lt h,fun a ha=>Nat.le_trans hlo (Nat.le_of_lt (hG.above a ha)),paired_of_get (by rw[List.length_map];omega) fun j x p e1 e2=>?_⟩ (by rw[List.length_map];omega)
   rw[List.getElem?_map]at e1;obtain⟨a,ea,rfl⟩:=Option.map_eq_some_iff.mp e1;obtain⟨key,k,y,g1,g2,g3⟩:=hG.pairs j a ea;obtain⟨x,f1,f2⟩:=kv_get rel g1;have f3:(kvs r)[j]?=some (Sum.inl p.1,V.int p.2):=by
    unfold kvs;rw[List.getElem?_map,e2]
    rfl
   rw[f3]at f1;cases f1;obtain⟨u,rfl⟩:=f2;rcases keyIs_shape (show keyIs (Sum.inl p.1) key=true from g2)with ⟨i,t,e5,rfl⟩ | ⟨x,t,e5,rfl⟩
   · cases e5
     exact⟨a,_,_,t,u,rfl,g3,rfl,rfl⟩
   cases e5
 · obtain⟨as,rfl,_,_,pp⟩:=hI
   exact kind_pairs pp hk h2 q'
 · obtain⟨as,rfl,_,_,pp⟩:=hI
   exact⟨_,(pairs_key pp).2.1 v hv⟩
 obtain⟨as,rfl,nd,ab,pp⟩:=hI;obtain⟨c1,c2,c3⟩:=pairs_key pp;have hv2:∀ v∈out.toList,PairW h1 v (kP h1 v):=fun v hv=>c2 v (b1.mem_iff.mp hv);obtain⟨bs,hbs⟩:∃ bs,bs=out.toList.map adr:=⟨_,rfl⟩;obtain⟨qs,hqs⟩:∃ qs:List (Int×Int),qs=out.toList.map (kP h1):=⟨_,rfl⟩;have ebs:out.toList=bs.map Value.ref:=by
  rw[hbs,List.map_map];refine(List.map_id _).symm.trans (List.map_congr_left fun v hv=>?_);obtain⟨a,_,_,_,_,rfl,_⟩:=hv2 v hv
  rfl
 have pbs:bs.Perm as:=by
  rw[hbs];have:=b1.map adr;rw[List.map_map]at this;exact this.trans (by rw[show(adr ∘ Value.ref)=id from rfl,List.map_id])
 have ndb:bs.Nodup:=pbs.nodup_iff.mpr nd;have lbq:bs.length=(kvs qs).length:=by rw[kvs_len,hbs,hqs];exact(List.length_map ..).trans (List.length_map ..).symm
 have get:∀(j:Nat) (a:Addr),bs[j]?=some a -> ∃ p,qs[j]?=some p/\PairW h1 (.ref a) p:=fun j a e=>by
  rw[hbs,List.getElem?_map]at e;obtain⟨v,ev,rfl⟩:=Option.map_eq_some_iff.mp e;have:=hv2 v (List.mem_of_getElem? ev);refine⟨_,by rw[hqs,List.getElem?_map,ev];rfl,?_⟩
  obtain⟨a,o,n,t,u,rfl,e⟩:=id this;exact this
 have kvq:∀{j:Nat}{p:Int×Int},qs[j]?=some p->(kvs qs)[j]?=some (Sum.inl p.1,V.int p.2):=fun {j p} e=>by
  unfold kvs;rw[List.getElem?_map,e]
  rfl
 have lob:out.toList.length<=sizeLine:=by rw[b1.length_eq,pp.length];omega
 have I':=Inv.over (N:=newIt b bs (kvs qs)) (t':=tk) I (fun c o e=>hk2 c o (hk1 c o e)) fun c o hc e=>by
  rcases newIt_inv lbq e with ⟨rfl,rfl⟩ | ⟨j,k,x,e1,e2,rfl⟩
  · refine⟨by rw[List.length_map,← List.length_map (f:=Value.ref),← ebs];exact lob,bs.map Value.ref,eo,vals_refs bs,?_⟩
    rw[← ebs,Array.toArray_toList];exact ho
  obtain⟨p,f1,a,o,n,t,u,f2,f3,f4,f5⟩:=get j c e1;rw[kvq f1]at e2;cases e2;cases f2;exact⟨by show(2:Nat)<=sizeLine;decide,[.int p.1 t,.int p.2 u],.cons ⟨t,rfl⟩ (.cons ⟨u,rfl⟩ .nil),_,hk2 _ _ f3,f4,_,f5⟩
 have hsb:s.heap.objs.size<=b:=Nat.le_trans hs1 hb;have lt:∀ b o,H b=some o->b < s.heap.objs.size:=fun b o e=>I.hok.lt e;refine⟨.ref b,_,I',rfl,q b (bs.map V.ref) qs _ (fun b o e=>by rw[over_old (lt b o e)];exact e) (I.hok.fresh hsb) ?_ (paired_of_get (by rw[List.length_map,lbq,kvs_len]) fun j x p e1 e2=>?_) ?_ ?_⟩
 · rw[over_new hsb]
   exact if_pos rfl
 · rw[List.getElem?_map]at e1
   obtain⟨a,ea,rfl⟩:=Option.map_eq_some_iff.mp e1;obtain⟨p',f1,g⟩:=get j a ea;rw[f1]at e2;cases e2;have hlt:a < h1.objs.size:=by
    obtain⟨a',o,_,_,_,e0,e1,_⟩:=g;cases e0;exact Heap.lt_size e1
   refine⟨a,rfl,?_⟩;rw[over_new (ab a (pbs.mem_iff.mp (List.mem_of_getElem? ea)))];exact newIt_at ndb (Nat.ne_of_lt (Nat.lt_of_lt_of_le hlt hb)) ea (kvq f1)
 · rw[hqs]
   have:=b1.map (kP h1);rw[c1]at this;exact this
 rw[hqs];exact List.pairwise_map.mpr b2
end SW
set_option maxHeartbeats 2000000
namespace SW
open PySem PySem.Spec PyProof.Rows L2
theorem cutAll_mem{o ps:MRow}{p:Int×Int}:p∈cutAll o ps ↔ p∈o/\p.1∉ps.map (·.1):=by
 rw[cutAll_filter,List.mem_filter,decide_eq_true_eq]
theorem fw_take_none{ths:List Thing}{L:LS}(h:fw L ths=none)(i:Nat):fw L (ths.take i)=none:=by rw[fw_take,h]
theorem fw_agr{ths:List Thing}{L:LS}{i:Nat}{th:Thing}(h:fw L ths=none)(e:ths[i]?=some th):agr (runL L (ths.take i)) th=true:=by
 have h1:=fw_take_none h (i+1);rw[take_snocF e,fw_none_append _ _ _ (fw_take_none h i)]at h1;cases a:agr (runL L (ths.take i)) th with
 | true=>rfl
 | false=>
   have:fw (runL L (ths.take i)) [th]=some 0:=by show(if agr _ th=true then _ else some 0)=some 0;rw[a];rfl
   rw[this]at h1;cases h1
theorem fw_bent{ths us:List Thing}{L:LS}{i:Nat}{t:Thing}(h:fw L ths=none)(hi:i < ths.length)(hb:agr (runL L (ths.take i)) t=false):fw L (ths.take i++[t]++us)=some i:=by
 rw[List.append_assoc,fw_none_append _ _ _ (fw_take_none h i)];show(if agr (runL L (ths.take i)) t=true then _ else some 0).map (· + (ths.take i).length)=some i;rw[hb,List.length_take,Nat.min_eq_left (Nat.le_of_lt hi)];show some (0+i)=some i;rw[Nat.zero_add]
theorem bent_cur{L:LS}{c c' b b':Int}{ps ps':MRow}(h:agr L (.step c b ps)=true)(n:c'≠c):agr L (.step c' b' ps')=false:=by
 have h1:(stepOk L c b ps && _)=true:=h;have h2:=(Bool.and_eq_true_iff.mp h1).1;unfold stepOk at h2;have h3:=of_decide_eq_true (Bool.and_eq_true_iff.mp (Bool.and_eq_true_iff.mp h2).1).1;show(stepOk L c' b' ps' && _)=false;unfold stepOk;rw[decide_eq_false (fun z=>n (z.trans h3.symm)),Bool.false_and,Bool.false_and,Bool.false_and]
theorem agr_all{L:LS}{c b:Int}{ps:MRow}(h:agr L (.step c b ps)=true):∀ p∈ps,rLook L.w p.1=some p.2:=fun p hp=>by
 have h1:(stepOk L c b ps && _)=true:=h;have h2:=(Bool.and_eq_true_iff.mp h1).1;unfold stepOk hasAll at h2;have h3:=(Bool.and_eq_true_iff.mp (Bool.and_eq_true_iff.mp h2).2).2;exact of_decide_eq_true (List.all_eq_true.mp h3 p hp)
theorem bent_pair{L:LS}{c b:Int}{ps:MRow}{p:Int×Int}(hp:p∈ps)(n:rLook L.w p.1≠some p.2):agr L (.step c b ps)=false:=by
 cases a:agr L (.step c b ps)with
 | false=>rfl
 | true=>exact absurd (agr_all a p hp) n
theorem next_ok{L:LS}{c b:Int}{ps:MRow}(h:stepOk L c b ps=true):nextL L (.step c b ps)=⟨L.w,b,owe L c ps⟩:=by
 show(if stepOk L c b ps=true then _ else _)=_;rw[if_pos h]
theorem agr_ok{L:LS}{c b:Int}{ps:MRow}(h:agr L (.step c b ps)=true):stepOk L c b ps=true:=(Bool.and_eq_true_iff.mp h).1
theorem fw_cons_t{L:LS}{t:Thing}{ts:List Thing}(a:agr L t=true):fw L (t::ts)=(fw (nextL L t) ts).map (· + 1):=by
 show(if agr L t=true then _ else some 0)=_;rw[a]
 rfl
theorem fw_cons_f{L:LS}{t:Thing}{ts:List Thing}(a:agr L t=false):fw L (t::ts)=some 0:=by
 show(if agr L t=true then _ else some 0)=_;rw[a]
 rfl
structure Seg where
 c:Int
 b:Int
 Q:MRow
 x:Option Int
noncomputable def dd(k:Nat):Option Int->List Thing
 | none=>[]
 | some y=>[.put (100+(k:Int)) y none,.look (100+(k:Int)) (some y),.cut (100+(k:Int)) (some y)]
noncomputable def walkT:Nat->List Seg->List Thing
 | _,[]=>[]
 | k,s::ss=>.step s.c s.b s.Q::(dd k s.x++walkT (k+1) ss)
noncomputable def Low(r:MRow):Prop:=∀ p∈r,p.1 < 100
theorem Low.no{r:MRow}(h:Low r)(k:Nat):¬ (100+(k:Int))∈r.map (·.1):=fun z=>by
 obtain⟨p,hp,e⟩:=List.mem_map.mp z;have:=h p hp;omega
theorem Low.cutAll{o ps:MRow}(h:Low o):Low (cutAll o ps):=fun p hp=>h p (cutAll_mem.mp hp).1
theorem Low.cut{o:MRow}{k:Int}(h:Low o):Low (rCut o k):=fun p hp=>h p (List.mem_filter.mp hp).1
theorem dd_id{L:LS}(hw:Low L.w)(ho:Low L.o)(k:Nat)(x:Option Int):fw L (dd k x)=none/\runL L (dd k x)=L:=by
 cases x with
 | none=>exact⟨rfl,rfl⟩
 | some y=>
   have e0:rLook L.w (100+(k:Int))=none:=(rLook_none_iff _).mpr (hw.no k);have e1:rLook (rPut L.w (100+(k:Int)) y) (100+(k:Int))=some y:=by rw[rLook_put,if_pos rfl]
   have e2:rCut (rPut L.w (100+(k:Int)) y) (100+(k:Int))=L.w:=by
    rw[rPut_new e0];show(L.w++[_]).filter _=L.w;rw[List.filter_append];have z1:L.w.filter (fun p=>decide (p.1≠100+(k:Int)))=L.w:=rCut_no (hw.no k);have z2:[((100+(k:Int)),y)].filter (fun p=>decide (p.1≠100+(k:Int)))=[]:=by simp
    rw[z1,z2,List.append_nil]
   have a1:agr L (.put (100+(k:Int)) y none)=true:=by show decide (none=rLook L.w _)=true;rw[e0];rfl
   have a2:agr (nextL L (.put (100+(k:Int)) y none)) (.look (100+(k:Int)) (some y))=true:=by show decide (some y=rLook (rPut L.w _ y) _)=true;rw[e1];exact decide_eq_true rfl
   have a3:agr (nextL (nextL L (.put (100+(k:Int)) y none)) (.look (100+(k:Int)) (some y))) (.cut (100+(k:Int)) (some y))=true:=by show decide (some y=rLook (rPut L.w _ y) _)=true;rw[e1];exact decide_eq_true rfl
   refine⟨?_,?_⟩
   · show fw L [_,_,_]=none
     rw[fw_cons_t a1,fw_cons_t a2,fw_cons_t a3]
     rfl
   show(⟨rCut (rPut L.w (100+(k:Int)) y) (100+(k:Int)),L.c,rCut L.o (100+(k:Int))⟩:LS)=L;rw[e2,rCut_no (ho.no k)]
theorem fw_dd{L:LS}(hw:Low L.w)(ho:Low L.o)(k:Nat)(x:Option Int)(us:List Thing):fw L (dd k x++us)=(fw L us).map (· + (dd k x).length):=by
 obtain⟨h1,h2⟩:=dd_id hw ho k x;rw[fw_none_append _ _ _ h1,h2]
noncomputable def Chn:Int->List Seg->Prop
 | _,[]=>False
 | c,[s]=>s.c=c/\s.b=0
 | c,s::t::ss=>s.c=c/\0 < s.b/\s.b<=65535/\c < s.b/\Chn s.b (t::ss)
noncomputable def lastI:Nat->List Seg->Nat
 | _,[]=>0
 | _,[_]=>0
 | k,s::t::ss=>lastI (k+1) (t::ss)+(dd k s.x).length+1
noncomputable def toTell(c:Int)(w o:MRow):MRow:=if c=0 then w else o
theorem omap_add(x:Option Nat)(a b:Nat):(x.map (· + a)).map (· + b)=x.map (· + (a+b)):=by
 cases x with
 | none=>rfl
 | some n=>show some (n+a+b)=some (n+(a+b));congr 1;omega
theorem step_ok{w o Q:MRow}{c b:Int}(hm:mayF b c=true)(ha:hasAll w Q=true):stepOk ⟨w,c,o⟩ c b Q=true:=by
 unfold stepOk;rw[decide_eq_true (show c=(⟨w,c,o⟩:LS).c from rfl),hm];show hasAll w Q=true;exact ha
theorem step_agr{w o Q:MRow}{c b:Int}(hm:mayF b c=true)(ha:hasAll w Q=true)(hb:b≠0):agr ⟨w,c,o⟩ (.step c b Q)=true/\nextL ⟨w,c,o⟩ (.step c b Q)=⟨w,b,cutAll (toTell c w o) Q⟩:=by
 have s:=step_ok (o:=o) hm ha;refine⟨?_,next_ok s⟩;show(stepOk _ c b Q && (decide (b≠0) || _))=true;rw[s,decide_eq_true hb]
 rfl
theorem step_last{w o Q:MRow}{c:Int}(ha:hasAll w Q=true) :
 ((∀ p∈toTell c w o,p.1∈Q.map (·.1))->agr ⟨w,c,o⟩ (.step c 0 Q)=true/\nextL ⟨w,c,o⟩ (.step c 0 Q)=⟨w,0,[]⟩) /\
 ((∃ p∈toTell c w o,p.1∉Q.map (·.1))->agr ⟨w,c,o⟩ (.step c 0 Q)=false):=by
 have s:=step_ok (o:=o) (c:=c) (b:=0) (w:=w) (Q:=Q) rfl ha;have ea:agr ⟨w,c,o⟩ (.step c 0 Q)=(cutAll (toTell c w o) Q).isEmpty:=by
  show(stepOk _ c 0 Q && (decide ((0:Int)≠0) || _))=_;rw[s]
  rfl
 constructor
 · intro h
   have e:cutAll (toTell c w o) Q=[]:=List.eq_nil_iff_forall_not_mem.mpr fun p hp=>(cutAll_mem.mp hp).2 (h p (cutAll_mem.mp hp).1);refine⟨by rw[ea,e];rfl,?_⟩
   rw[next_ok s];show(⟨w,0,cutAll (toTell c w o) Q⟩:LS)=_;rw[e]
 intro ⟨p,h1,h2⟩;rw[ea];cases e:cutAll (toTell c w o) Q with
 | nil=>
   have:=cutAll_mem.mpr ⟨h1,h2⟩;rw[e]at this;cases this
 | cons _ _=>rfl
theorem Low.tell{c:Int}{w o:MRow}(hw:Low w)(ho:Low o):Low (toTell c w o):=by
 unfold toTell;split
 · exact hw
 exact ho
theorem may_of{b c:Int}(h0:0 < b)(h1:b<=65535)(h2:c < b):mayF b c=true:=by
 unfold mayF;rw[decide_eq_true (show 0<=b/\b<=65535 from⟨by omega,h1⟩),decide_eq_true h2]
 exact Bool.or_true _
theorem walk_fw:∀(ss:List Seg) (k:Nat) (c:Int) (w o:MRow) (us:List Thing),Chn c ss->(∀ s∈ss,hasAll w s.Q=true)->Low w->Low o ->
 ((∀ p∈toTell c w o,∃ s∈ss,p.1∈s.Q.map (·.1))->fw ⟨w,c,o⟩ (walkT k ss++us)=(fw ⟨w,0,[]⟩ us).map (· + (walkT k ss).length)) /\
 ((∃ p∈toTell c w o,∀ s∈ss,p.1∉s.Q.map (·.1))->fw ⟨w,c,o⟩ (walkT k ss++us)=some (lastI k ss))
 | [],_,_,_,_,_,h,_,_,_=>h.elim
 | [s],k,c,w,o,us,h,ha,hw,ho=>by
   obtain⟨h1,h2⟩:=h;have A:=ha s List.mem_cons_self;have e:walkT k [s]++us=.step c 0 s.Q::(dd k s.x++us):=by
    show(Thing.step s.c s.b s.Q::(dd k s.x++[]))++us=_;rw[h1,h2,List.append_nil]
    rfl
   have el:(walkT k [s]).length=(dd k s.x).length+1:=by
    show(dd k s.x++[]).length+1=_;rw[List.append_nil]
   obtain⟨L1,L2⟩:=step_last (o:=o) (c:=c) A;rw[e,el]
   constructor
   · intro ht
     obtain⟨a,n⟩:=L1 fun p hp=>by
      obtain⟨t,ht,z⟩:=ht p hp;cases List.mem_singleton.mp ht;exact z
     rw[fw_cons_t a,n,fw_dd hw (show Low []from fun p h=>(List.not_mem_nil h).elim),omap_add]
   intro ⟨p,hp,hn⟩;exact fw_cons_f (L2 ⟨p,hp,hn s List.mem_cons_self⟩)
 | s::t::ss,k,c,w,o,us,h,ha,hw,ho=>by
   obtain⟨h1,h2,h3,h4,h5⟩:=h;have A:=ha s List.mem_cons_self;obtain⟨a,n⟩:=step_agr (o:=o) (may_of h2 h3 h4) A (by omega)
   have hlo:Low (cutAll (toTell c w o) s.Q):=(Low.tell hw ho).cutAll;obtain⟨r1,r2⟩:=walk_fw (t::ss) (k+1) s.b w (cutAll (toTell c w o) s.Q) us h5 (fun s' hs=>ha s' (List.mem_cons_of_mem _ hs)) hw hlo;have et:toTell s.b w (cutAll (toTell c w o) s.Q)=cutAll (toTell c w o) s.Q:=if_neg (by omega)
   rw[et]at r1 r2;have e:walkT k (s::t::ss)++us=.step c s.b s.Q::(dd k s.x++(walkT (k+1) (t::ss)++us)):=by
    show(Thing.step s.c s.b s.Q::(dd k s.x++walkT (k+1) (t::ss)))++us=_;rw[h1,List.cons_append,List.append_assoc]
   have el:(walkT k (s::t::ss)).length=(walkT (k+1) (t::ss)).length+((dd k s.x).length+1):=by
    show(dd k s.x++walkT (k+1) (t::ss)).length+1=_;rw[List.length_append];omega
   rw[e,el,fw_cons_t a,n,fw_dd hw hlo,omap_add]
   constructor
   · intro ht
     rw[r1 fun p hp=>?_,omap_add];obtain⟨p1,p2⟩:=cutAll_mem.mp hp;obtain⟨s',hs,z⟩:=ht p p1;rcases List.mem_cons.mp hs with y | y
     · subst y;exact absurd z p2
     exact⟨s',y,z⟩
   intro ⟨p,hp,hn⟩;rw[r2 ⟨p,cutAll_mem.mpr ⟨hp,hn s List.mem_cons_self⟩,fun s' hs=>hn s' (List.mem_cons_of_mem _ hs)⟩];show some (lastI (k+1) (t::ss)+((dd k s.x).length+1))=some (lastI (k+1) (t::ss)+(dd k s.x).length+1)
   congr 1
theorem seg_split:∀(ss:List Seg) (k i:Nat) (c b:Int) (Q:MRow),(walkT k ss)[i]?=some (.step c b Q) -> ∃ a s d,ss=a++s::d/\s.c=c/\s.b=b/\s.Q=Q/\i=(walkT k a).length /\ ∀ Q',(walkT k ss).set i (.step c b Q')=walkT k (a++⟨c,b,Q',s.x⟩::d)
 | [],k,i,c,b,Q,h=>by simp[walkT]at h
 | s::ss,k,0,c,b,Q,h=>by
   have h:some (Thing.step s.c s.b s.Q)=some (.step c b Q):=h;injection h with h;injection h with h1 h2 h3;exact⟨[],s,ss,rfl,h1,h2,h3,rfl,fun Q'=>rfl⟩
 | s::ss,k,i+1,c,b,Q,h=>by
   have h:(dd k s.x++walkT (k+1) ss)[i]?=some (.step c b Q):=h;by_cases hi:i < (dd k s.x).length
   · rw[List.getElem?_append_left hi]at h
     exfalso
     have hm:=List.mem_of_getElem? h;cases e:s.x with
     | none=>rw[e]at hm;cases hm
     | some y=>
       rw[e]at hm;simp[dd]at hm
   rw[List.getElem?_append_right (by omega)]at h
   obtain⟨a,s',d,e,h1,h2,h3,h4,h5⟩:=seg_split ss (k+1) _ c b Q h;refine⟨s::a,s',d,by rw[e];rfl,h1,h2,h3,?_,fun Q'=>?_⟩
   · show i+1=(dd k s.x++walkT (k+1) a).length+1
     rw[List.length_append];omega
   show(Thing.step s.c s.b s.Q::(dd k s.x++walkT (k+1) ss)).set (i+1) (.step c b Q')=.step s.c s.b s.Q::(dd k s.x++walkT (k+1) (a++⟨c,b,Q',s'.x⟩::d));rw[List.set_cons_succ,List.set_append_right _ _ (by omega),h5]
theorem set_take{α:Type}{l:List α}{i:Nat}{t:α}(h:i < l.length):l.set i t=l.take i++[t]++l.drop (i+1):=by
 rw[List.set_eq_take_append_cons_drop,if_pos h,List.append_assoc]
 rfl
theorem bent_set{A T:List Thing}{at_:Nat}{t:Thing}(h:fw L0 (A++T)=none)(hi:at_ < T.length)(hb:agr (runL L0 ((A++T).take (A.length+at_))) t=false):fw L0 (A++T.set at_ t)=some (A.length+at_):=by
 have:=fw_bent (us:=T.drop (at_+1)) h (i:=A.length+at_) (by rw[List.length_append];omega) hb
 rw[set_take hi,← this,List.take_length_add_append,List.append_assoc,List.append_assoc,List.append_assoc]
theorem agr_set{A T:List Thing}{at_:Nat}{th:Thing}(h:fw L0 (A++T)=none)(e:T[at_]?=some th):agr (runL L0 ((A++T).take (A.length+at_))) th=true:=
 fw_agr h (by rw[List.getElem?_append_right (by omega),Nat.add_sub_cancel_left];exact e)
theorem bent_may{L:LS}{c b:Int}{ps:MRow}(n:mayF b c=false):agr L (.step c b ps)=false:=by
 show(stepOk L c b ps && _)=false;unfold stepOk;rw[n,Bool.and_false,Bool.false_and,Bool.false_and]
theorem bent_twice{L:LS}{c b:Int}{ps:MRow}{p:Int×Int}(h:p∈ps):agr L (.step c b (ps++[p]))=false:=by
 show(stepOk L c b (ps++[p]) && _)=false;have:hasAll L.w (ps++[p])=false:=by
  unfold hasAll;rw[decide_eq_false,Bool.false_and];intro z;rw[← List.length_map (f:=fun q:Int×Int=>q.1),nDist_iff,List.map_append]at z;exact(List.nodup_append.mp z).2.2 p.1 (List.mem_map.mpr ⟨p,h,rfl⟩) p.1 (List.mem_cons_self ..) rfl
 unfold stepOk;rw[this,Bool.and_false,Bool.false_and]
theorem hasAll_of{w ps:MRow}(nd:(ps.map (·.1)).Nodup)(h:∀ p∈ps,rLook w p.1=some p.2):hasAll w ps=true:=by
 unfold hasAll;rw[decide_eq_true (by rw[(nDist_iff _).mpr nd,List.length_map]),Bool.true_and]
 exact List.all_eq_true.mpr fun p hp=>decide_eq_true (h p hp)
structure Wk(A:List Thing)(r:MRow)(ss:List Seg):Prop where
 fa:fw L0 A=none
 ra:runL L0 A=⟨r,0,[]⟩
 ok:ROk r
 lo:Low r
 ch:Chn 0 ss
 pm:(ss.flatMap (·.Q)).Perm r
namespace Wk
variable{A:List Thing}{r:MRow}{ss:List Seg}
theorem nd(h:Wk A r ss):((ss.flatMap (·.Q)).map (·.1)).Nodup:=(h.pm.map _).nodup_iff.mpr h.ok
theorem mem(h:Wk A r ss){s:Seg}(hs:s∈ss){p:Int×Int}(hp:p∈s.Q):p∈r:=h.pm.mem_iff.mp (List.mem_flatMap.mpr ⟨s,hs,hp⟩)
theorem nd1(h:Wk A r ss){s:Seg}(hs:s∈ss):(s.Q.map (·.1)).Nodup:=by
 obtain⟨a,d,e⟩:=List.append_of_mem hs;have:=h.nd;rw[e,List.flatMap_append,List.flatMap_cons,List.map_append,List.map_append]at this;exact(List.nodup_append.mp (List.nodup_append.mp this).2.1).1
theorem has(h:Wk A r ss){s:Seg}(hs:s∈ss):hasAll r s.Q=true:=hasAll_of (h.nd1 hs) fun p hp=>rLook_in h.ok (h.mem hs hp)
theorem tells(h:Wk A r ss){p:Int×Int}(hp:p∈r):∃ s∈ss,p∈s.Q:=List.mem_flatMap.mp (h.pm.mem_iff.mpr hp)
theorem lowE:Low []:=fun _ h=>(List.not_mem_nil h).elim
theorem fw_alt(h:Wk A r ss){ss':List Seg}(us:List Thing)(ch:Chn 0 ss')(ha:∀ s∈ss',hasAll r s.Q=true) :
 ((∀ p∈r,∃ s∈ss',p.1∈s.Q.map (·.1))->fw L0 (A++(walkT 0 ss'++us))=(fw ⟨r,0,[]⟩ us).map (· + (A++walkT 0 ss').length)) /\
 ((∃ p∈r,∀ s∈ss',p.1∉s.Q.map (·.1))->fw L0 (A++(walkT 0 ss'++us))=some (A.length+lastI 0 ss')):=by
 obtain⟨r1,r2⟩:=walk_fw ss' 0 0 r [] us ch ha h.lo lowE;rw[fw_none_append _ _ _ h.fa,h.ra]
 constructor
 · intro z
   rw[r1 z,omap_add,List.length_append,Nat.add_comm A.length]
 intro z;rw[r2 z];show some (lastI 0 ss'+A.length)=_;rw[Nat.add_comm]
theorem all(h:Wk A r ss)(us:List Thing):fw L0 (A++(walkT 0 ss++us))=(fw ⟨r,0,[]⟩ us).map (· + (A++walkT 0 ss).length):=
 (h.fw_alt us h.ch fun s hs=>h.has hs).1 fun p hp=>by
  obtain⟨s,hs,z⟩:=h.tells hp;exact⟨s,hs,List.mem_map.mpr ⟨p,z,rfl⟩⟩
theorem right(h:Wk A r ss):fw L0 (A++walkT 0 ss)=none:=by
 have:=h.all [];rw[List.append_nil]at this;rw[this]
 rfl
theorem again(h:Wk A r ss){qs:MRow}(hq:qs.Perm r):fw L0 (A++walkT 0 ss++[.step 0 0 qs])=none:=by
 rw[List.append_assoc,h.all];have hh:hasAll r qs=true:=hasAll_of ((hq.map _).nodup_iff.mpr h.ok) fun p hp=>rLook_in h.ok (hq.mem_iff.mp hp);obtain⟨a,n⟩:=(step_last (o:=[]) (c:=0) hh).1 fun p hp=>List.mem_map.mpr ⟨p,hq.mem_iff.mpr hp,rfl⟩;rw[fw_cons_t a]
 rfl
theorem seven(h:Wk A r ss):fw L0 (A++walkT 0 ss++[.step 7 0 []])=some (A++walkT 0 ss).length:=by
 rw[List.append_assoc,h.all];have a:agr ⟨r,0,[]⟩ (.step 7 0 [])=false:=rfl;rw[fw_cons_f a];show some (0+_)=_;rw[Nat.zero_add]
variable{at_:Nat}{c b:Int}{Q:MRow}
theorem lt(e:(walkT 0 ss)[at_]?=some (.step c b Q)):at_ < (walkT 0 ss).length:=(List.getElem?_eq_some_iff.mp e).1
theorem w_at(h:Wk A r ss)(e:(walkT 0 ss)[at_]?=some (.step c b Q)):∀ p∈Q,p∈r:=by
 obtain⟨a,s,d,e1,_,_,e2,_,_⟩:=seg_split ss 0 at_ c b Q e;subst e2;exact fun p hp=>h.mem (e1 ▸ List.mem_append_right _ (List.mem_cons_self ..)) hp
theorem run_w:∀(a:List Seg) (k:Nat) (L:LS),Low L.w->Low L.o->(runL L (walkT k a)).w=L.w
 | [],_,_,_,_=>rfl
 | s::a,k,L,hw,ho=>by
   show(runL (nextL L (.step s.c s.b s.Q)) (dd k s.x++walkT (k+1) a)).w=L.w;have h1:(nextL L (.step s.c s.b s.Q)).w=L.w:=by
    show(if stepOk L s.c s.b s.Q=true then(⟨L.w,s.b,owe L s.c s.Q⟩:LS)else L).w=L.w;split <;> rfl
   have h2:Low (nextL L (.step s.c s.b s.Q)).o:=by
    show Low (if stepOk L s.c s.b s.Q=true then(⟨L.w,s.b,owe L s.c s.Q⟩:LS)else L).o;split
    · exact(Low.tell hw ho).cutAll
    exact ho
   rw[runL_append,(dd_id (by rw[h1];exact hw) h2 k s.x).2,run_w a (k+1) _ (by rw[h1];exact hw) h2,h1]
theorem at_w(h:Wk A r ss)(e:(walkT 0 ss)[at_]?=some (.step c b Q)):(runL L0 ((A++walkT 0 ss).take (A.length+at_))).w=r:=by
 obtain⟨a,s,d,e1,_,_,_,e3,e4⟩:=seg_split ss 0 at_ c b Q e;have ht:∀(a d:List Seg) (k:Nat),(walkT k (a++d)).take (walkT k a).length=walkT k a:=by
  intro a
  induction a with
  | nil=>intro d k;rfl
  | cons x a ih=>
    intro d k;show(Thing.step x.c x.b x.Q::(dd k x.x++walkT (k+1) (a++d))).take ((dd k x.x++walkT (k+1) a).length+1)=.step x.c x.b x.Q::(dd k x.x++walkT (k+1) a);rw[List.take_succ_cons,List.length_append,List.take_length_add_append,ih]
 rw[List.take_length_add_append,e1,e3,ht,runL_append,h.ra,run_w a 0 _ h.lo lowE]
variable{p:Int×Int}{y:Int}
theorem strange(h:Wk A r ss)(e:(walkT 0 ss)[at_]?=some (.step c b Q)){Q':MRow}(hp:p∈Q')(hn:rLook r p.1≠some p.2):fw L0 (A++(walkT 0 ss).set at_ (.step c b Q'))=some (A.length+at_):=
 bent_set h.right (lt e) (bent_pair hp (by rw[h.at_w e];exact hn))
theorem fifty(h:Wk A r ss)(e:(walkT 0 ss)[at_]?=some (.step c b Q))(hn:(50:Int)∉r.map (·.1)):fw L0 (A++(walkT 0 ss).set at_ (.step c b (Q++[(50,0)])))=some (A.length+at_):=
 h.strange e (p:=(50,0)) (List.mem_append_right _ (List.mem_cons_self ..)) (by rw[(rLook_none_iff _).mpr hn];exact fun z=>nomatch z)
theorem other(h:Wk A r ss)(e:(walkT 0 ss)[at_]?=some (.step c b Q))(hp:p∈Q)(hy:y≠p.2)(Q':MRow):fw L0 (A++(walkT 0 ss).set at_ (.step c b (Q'++[(p.1,y)])))=some (A.length+at_):=
 h.strange e (p:=(p.1,y)) (List.mem_append_right _ (List.mem_cons_self ..)) (by
  show rLook r p.1≠some y;rw[rLook_in h.ok (h.w_at e p hp)];exact fun z=>hy (by injection z with z;exact z.symm))
theorem twice(h:Wk A r ss)(e:(walkT 0 ss)[at_]?=some (.step c b Q))(hp:p∈Q):fw L0 (A++(walkT 0 ss).set at_ (.step c b (Q++[p])))=some (A.length+at_):=bent_set h.right (lt e) (bent_twice hp)
theorem cursor(h:Wk A r ss)(e:(walkT 0 ss)[at_]?=some (.step c b Q)):fw L0 (A++(walkT 0 ss).set at_ (.step (c+1) b Q))=some (A.length+at_):=bent_set h.right (lt e) (bent_cur (agr_set h.right e) (by omega))
theorem far(h:Wk A r ss)(e:(walkT 0 ss)[at_]?=some (.step c b Q))(c':Int)(Q':MRow):fw L0 (A++(walkT 0 ss).set at_ (.step c' 65536 Q'))=some (A.length+at_):=bent_set h.right (lt e) (bent_may (by
 unfold mayF;rw[decide_eq_false (by decide),decide_eq_false (by omega)]
 rfl))
theorem chn_pos:∀(ss:List Seg) (c:Int),0 < c->Chn c ss -> ∀ s∈ss,0 < s.c
 | [],_,_,h=>h.elim
 | [s],c,hc,h=>fun t ht=>by
   cases List.mem_singleton.mp ht;rw[h.1];exact hc
 | s::t::ss,c,hc,h=>fun x hx=>by
   rcases List.mem_cons.mp hx with z | z
   · rw[z,h.1];exact hc
   exact chn_pos (t::ss) s.b h.2.1 h.2.2.2.2 x z
theorem late(h:Wk A r ss)(e:(walkT 0 ss)[at_]?=some (.step c b Q))(ha:at_≠0):0 < c:=by
 obtain⟨a,s,d,e1,e2,_,_,e3,_⟩:=seg_split ss 0 at_ c b Q e;cases a with
 | nil=>exact absurd e3 ha
 | cons x a=>
   have ch:=h.ch;rw[e1]at ch;rw[← e2];cases a with
   | nil=>exact chn_pos _ _ ch.2.1 ch.2.2.2.2 s (List.mem_cons_self ..)
   | cons y a=>exact chn_pos _ _ ch.2.1 ch.2.2.2.2 s (List.mem_cons_of_mem _ (List.mem_append_right _ (List.mem_cons_self ..)))
theorem behind(h:Wk A r ss)(e:(walkT 0 ss)[at_]?=some (.step c b Q))(ha:at_≠0):fw L0 (A++(walkT 0 ss).set at_ (.step c c Q))=some (A.length+at_):=by
 have hc:=h.late e ha;refine bent_set h.right (lt e) (bent_may ?_);unfold mayF;rw[decide_eq_false (by omega),decide_eq_false (show ¬ c < c by omega),Bool.and_false]
 rfl
theorem chn_alt:∀(a:List Seg) (c:Int) (s t:Seg) (d:List Seg),s.c=t.c->s.b=t.b->Chn c (a++s::d)->Chn c (a++t::d)
 | [],c,s,t,[],h1,h2,h=>⟨h1.symm.trans h.1,h2.symm.trans h.2⟩
 | [],c,s,t,x::d,h1,h2,h=>⟨h1.symm.trans h.1,h2 ▸ h.2.1,h2 ▸ h.2.2.1,h2 ▸ h.2.2.2.1,h2 ▸ h.2.2.2.2⟩
 | [y],c,s,t,d,h1,h2,h=>⟨h.1,h.2.1,h.2.2.1,h.2.2.2.1,chn_alt [] _ s t d h1 h2 h.2.2.2.2⟩
 | y::z::a,c,s,t,d,h1,h2,h=>⟨h.1,h.2.1,h.2.2.1,h.2.2.2.1,chn_alt (z::a) _ s t d h1 h2 h.2.2.2.2⟩
theorem last_alt:∀(a:List Seg) (k:Nat) (s t:Seg) (d:List Seg),s.x=t.x->lastI k (a++s::d)=lastI k (a++t::d)
 | [],k,s,t,[],h=>rfl
 | [],k,s,t,x::d,h=>by
   show lastI (k+1) (x::d)+(dd k s.x).length+1=lastI (k+1) (x::d)+(dd k t.x).length+1;rw[h]
 | [y],k,s,t,d,h=>by
   show lastI (k+1) (s::d)+(dd k y.x).length+1=lastI (k+1) (t::d)+(dd k y.x).length+1;rw[show lastI (k+1) (s::d)=lastI (k+1) (t::d)from last_alt [] (k+1) s t d h]
 | y::z::a,k,s,t,d,h=>by
   show lastI (k+1) (z::a++s::d)+(dd k y.x).length+1=lastI (k+1) (z::a++t::d)+(dd k y.x).length+1;rw[last_alt (z::a) (k+1) s t d h]
theorem alone{a d:List Seg}{s:Seg}(h:Wk A r (a++s::d))(hp:p∈s.Q):∀ t,t∈a∨t∈d->p.1∉t.Q.map (·.1):=by
 have nd:=h.nd;rw[List.flatMap_append,List.flatMap_cons,List.map_append,List.map_append]at nd;obtain⟨n1,n2,n3⟩:=List.nodup_append.mp nd;obtain⟨n4,n5,n6⟩:=List.nodup_append.mp n2;have hk:p.1∈s.Q.map (·.1):=List.mem_map.mpr ⟨p,hp,rfl⟩;intro t ht z;obtain⟨q,hq,e⟩:=List.mem_map.mp z;rcases ht with y | y
 · exact n3 p.1 (List.mem_map.mpr ⟨q,List.mem_flatMap.mpr ⟨t,y,hq⟩,e⟩) p.1 (List.mem_append_left _ hk) rfl
 exact n6 p.1 hk p.1 (List.mem_map.mpr ⟨q,List.mem_flatMap.mpr ⟨t,y,hq⟩,e⟩) rfl
theorem key_one{w ps:MRow}(nd:(ps.map (·.1)).Nodup)(hp:p∈ps):p.1∉(ps.filter fun q=>decide (q≠p)).map (·.1):=fun z=>by
 obtain⟨q,hq,e⟩:=List.mem_map.mp z;obtain⟨h1,h2⟩:=List.mem_filter.mp hq;refine of_decide_eq_true h2 ?_;have a1:rLook ps q.1=some q.2:=rLook_in nd h1;have a2:rLook ps p.1=some p.2:=rLook_in nd hp;rw[e,a2]at a1;injection a1 with a1;exact Prod.ext e a1.symm
theorem sub_nd{ps:MRow}{f:Int×Int->Bool}(nd:(ps.map (·.1)).Nodup):((ps.filter f).map (·.1)).Nodup:=nd.sublist (List.filter_sublist.map _)
theorem gone(h:Wk A r ss)(e:(walkT 0 ss)[at_]?=some (.step c b Q))(hp:p∈Q):fw L0 (A++(walkT 0 ss).set at_ (.step c b (Q.filter fun q=>decide (q≠p))))=some (A.length+lastI 0 ss):=by
 have hr:=h.w_at e p hp;obtain⟨a,s,d,e1,e2,e3,e4,e5,e6⟩:=seg_split ss 0 at_ c b Q e;subst e1 e2 e3 e4;have hs:s∈a++s::d:=List.mem_append_right _ (List.mem_cons_self ..);have ch:=chn_alt a 0 s ⟨s.c,s.b,s.Q.filter fun q=>decide (q≠p),s.x⟩ d rfl rfl h.ch;have H:=(h.fw_alt [] ch fun t ht=>by
  rcases List.mem_append.mp ht with z | z
  · exact h.has (List.mem_append_left _ z)
  · rcases List.mem_cons.mp z with z | z
    · rw[z]
      exact hasAll_of (sub_nd (h.nd1 hs)) fun q hq=>rLook_in h.ok (h.mem hs (List.mem_filter.mp hq).1)
    exact h.has (List.mem_append_right _ (List.mem_cons_of_mem _ z))).2 ⟨p,hr,fun t ht=>by
  rcases List.mem_append.mp ht with z | z
  · exact h.alone hp t (.inl z)
  rcases List.mem_cons.mp z with z | z
  · rw[z];exact key_one (w:=r) (h.nd1 hs) hp
  exact h.alone hp t (.inr z)⟩
 rw[List.append_nil]at H;rw[e6,H];exact congrArg (fun n=>some (A.length+n)) (last_alt a 0 ⟨s.c,s.b,s.Q.filter fun q=>decide (q≠p),s.x⟩ s d rfl)
theorem told(h:Wk A r ss)(e:(walkT 0 ss)[at_]?=some (.step c b Q))(hr:p∈r)(hp:p∉Q):fw L0 (A++(walkT 0 ss).set at_ (.step c b (Q++[p])))=none:=by
 obtain⟨a,s,d,e1,e2,e3,e4,e5,e6⟩:=seg_split ss 0 at_ c b Q e;subst e1 e2 e3 e4;have hs:s∈a++s::d:=List.mem_append_right _ (List.mem_cons_self ..);have ch:=chn_alt a 0 s ⟨s.c,s.b,s.Q++[p],s.x⟩ d rfl rfl h.ch;have H:=(h.fw_alt [] ch fun t ht=>by
  rcases List.mem_append.mp ht with z | z
  · exact h.has (List.mem_append_left _ z)
  · rcases List.mem_cons.mp z with z | z
    · rw[z]
      refine hasAll_of ?_ fun q hq=>?_
      · show((s.Q++[p]).map (·.1)).Nodup
        rw[List.map_append];refine List.nodup_append.mpr ⟨h.nd1 hs,List.nodup_cons.mpr ⟨List.not_mem_nil,List.nodup_nil⟩,fun x hx y hy z=>?_⟩;cases List.mem_singleton.mp hy;obtain⟨q,hq,y⟩:=List.mem_map.mp hx;have a1:rLook r q.1=some q.2:=rLook_in h.ok (h.mem hs hq);have a2:rLook r p.1=some p.2:=rLook_in h.ok hr;rw[y,z,a2]at a1;injection a1 with a1;exact hp (by rw[← show q=p from Prod.ext (y.trans z) a1.symm];exact hq)
      rcases List.mem_append.mp hq with z | z
      · exact rLook_in h.ok (h.mem hs z)
      cases List.mem_singleton.mp z;exact rLook_in h.ok hr
    exact h.has (List.mem_append_right _ (List.mem_cons_of_mem _ z))).1 fun q hq=>by
  obtain⟨t,ht,z⟩:=h.tells hq;have zk:q.1∈t.Q.map (·.1):=List.mem_map.mpr ⟨q,z,rfl⟩;rcases List.mem_append.mp ht with y | y
  · exact⟨t,List.mem_append_left _ y,zk⟩
  rcases List.mem_cons.mp y with y | y
  · refine⟨_,List.mem_append_right _ (List.mem_cons_self ..),?_⟩
    rw[y]at zk;show q.1∈(s.Q++[p]).map (·.1);rw[List.map_append];exact List.mem_append_left _ zk
  exact⟨t,List.mem_append_right _ (List.mem_cons_of_mem _ y),zk⟩
 rw[List.append_nil]at H;rw[e6,H]
 rfl
theorem mid_fw(h:Wk A r ss){x:Seg}{rest:List Seg}{mid:List Thing}{w' o':MRow}(ch:Chn 0 (x::rest))(hne:rest≠[])(hx:hasAll r x.Q=true)(hm:fw ⟨r,x.b,cutAll r x.Q⟩ mid=none)
 (hr:runL ⟨r,x.b,cutAll r x.Q⟩ mid=⟨w',x.b,o'⟩) (lw:Low w') (lo:Low o') (ha:∀ s∈rest,hasAll w' s.Q=true) (ho:∀ p∈o',∃ s∈rest,p.1∈s.Q.map (·.1)) :
 fw L0 (A++(.step x.c x.b x.Q::(mid++(dd 0 x.x++walkT 1 rest))))=none:=by
 cases rest with
 | nil=>exact absurd rfl hne
 | cons t rest=>
   obtain⟨h1,h2,h3,h4,h5⟩:=ch;obtain⟨a,n⟩:=step_agr (o:=[]) (may_of h2 h3 h4) hx (by omega)
   have n:nextL ⟨r,0,[]⟩ (.step 0 x.b x.Q)=⟨r,x.b,cutAll r x.Q⟩:=n;have et:toTell x.b w' o'=o':=if_neg (by omega)
   have r1:=(walk_fw (t::rest) 1 x.b w' o' [] h5 ha lw lo).1 (by rw[et];exact ho)
   rw[List.append_nil]at r1;rw[fw_none_append _ _ _ h.fa,h.ra,h1,fw_cons_t a,n,fw_none_append _ _ _ hm,hr,fw_dd lw lo,r1]
   rfl
theorem look_cut{q:Int×Int}(n:q.1≠p.1):rLook (rCut r p.1) q.1=rLook r q.1:=by rw[rLook_cut,if_neg n]
theorem mids(h:Wk A r ss)(e:(walkT 0 ss)[at_]?=some (.step c b Q))(hp:p∈Q)(ha:at_≠0){mid:List Thing}{w':MRow}(hlw:Low w')(hl:∀ q:Int×Int,q.1≠p.1->rLook w' q.1=rLook r q.1)
 (hm:∀ b o,fw ⟨r,b,o⟩ mid=none/\runL ⟨r,b,o⟩ mid=⟨w',b,rCut o p.1⟩) {g:List Thing} (eg:g=(walkT 0 ss).set at_ (.step c b (Q.filter fun q=>decide (q≠p)))) :
 fw L0 (A++(g.take 1++mid++g.drop 1))=none:=by
 obtain⟨a,s,d,e1,e2,e3,e4,e5,e6⟩:=seg_split ss 0 at_ c b Q e;subst e1 e2 e3 e4;rw[e6]at eg;cases a with
 | nil=>exact absurd e5 ha
 | cons x a=>
   have hs:s∈x::a++s::d:=List.mem_append_right _ (List.mem_cons_self ..);have hx:x∈x::a++s::d:=List.mem_cons_self ..;have ch:=chn_alt (x::a) 0 s ⟨s.c,s.b,s.Q.filter fun q=>decide (q≠p),s.x⟩ d rfl rfl h.ch;have hg:g.take 1++mid++g.drop 1=.step x.c x.b x.Q::(mid++(dd 0 x.x++walkT 1 (a++⟨s.c,s.b,s.Q.filter fun q=>decide (q≠p),s.x⟩::d))):=by
    rw[eg]
    rfl
   rw[hg];refine h.mid_fw ch (by simp) (h.has hx) (hm _ _).1 (hm _ _).2 hlw (h.lo.cutAll.cut) (fun t ht=>?_) (fun q hq=>?_)
   · have hn:p.1∉t.Q.map (·.1)/\hasAll r t.Q=true:=by
      rcases List.mem_append.mp ht with z | z
      · exact⟨h.alone (a:=x::a) hp t (.inl (List.mem_cons_of_mem _ z)),h.has (List.mem_append_left _ (List.mem_cons_of_mem _ z))⟩
      rcases List.mem_cons.mp z with z | z
      · rw[z]
        exact⟨key_one (w:=r) (h.nd1 hs) hp,hasAll_of (sub_nd (h.nd1 hs)) fun q hq=>rLook_in h.ok (h.mem hs (List.mem_filter.mp hq).1)⟩
      exact⟨h.alone (a:=x::a) hp t (.inr z),h.has (List.mem_append_right _ (List.mem_cons_of_mem _ z))⟩
     obtain⟨n1,n2⟩:=hn;unfold hasAll at n2 ⊢;obtain⟨n3,n4⟩:=Bool.and_eq_true_iff.mp n2;rw[n3,Bool.true_and];refine List.all_eq_true.mpr fun q hq=>?_;rw[hl q fun z=>n1 (z ▸ List.mem_map.mpr ⟨q,hq,rfl⟩)];exact List.all_eq_true.mp n4 q hq
   obtain⟨q1,q2⟩:=List.mem_filter.mp hq;have q2:q.1≠p.1:=of_decide_eq_true q2;obtain⟨q3,q4⟩:=cutAll_mem.mp q1;obtain⟨t,ht,z⟩:=h.tells q3;have zk:q.1∈t.Q.map (·.1):=List.mem_map.mpr ⟨q,z,rfl⟩;rcases List.mem_append.mp ht with y | y
   · rcases List.mem_cons.mp y with y | y
     · rw[y]at zk;exact absurd zk q4
     exact⟨t,List.mem_append_left _ y,zk⟩
   rcases List.mem_cons.mp y with y | y
   · refine⟨_,List.mem_append_right _ (List.mem_cons_self ..),List.mem_map.mpr ⟨q,List.mem_filter.mpr ⟨y ▸ z,decide_eq_true fun e=>q2 (congrArg _ e)⟩,rfl⟩⟩
   exact⟨t,List.mem_append_right _ (List.mem_cons_of_mem _ y),zk⟩
theorem wasCut(h:Wk A r ss)(e:(walkT 0 ss)[at_]?=some (.step c b Q))(hp:p∈Q)(ha:at_≠0){g:List Thing}(eg:g=(walkT 0 ss).set at_ (.step c b (Q.filter fun q=>decide (q≠p)))) :
 fw L0 (A++(g.take 1++[.cut p.1 (some p.2)]++g.drop 1))=none:=by
 have hr:rLook r p.1=some p.2:=rLook_in h.ok (h.w_at e p hp);refine h.mids e hp ha h.lo.cut (fun q n=>look_cut n) (fun b o=>⟨?_,rfl⟩) eg;rw[fw_cons_t (by show decide (some p.2=rLook r p.1)=true;rw[hr];exact decide_eq_true rfl)]
 rfl
theorem wasPut(h:Wk A r ss)(e:(walkT 0 ss)[at_]?=some (.step c b Q))(hp:p∈Q)(ha:at_≠0){g:List Thing}(eg:g=(walkT 0 ss).set at_ (.step c b (Q.filter fun q=>decide (q≠p)))) :
 fw L0 (A++(g.take 1++[.cut p.1 (some p.2),.put p.1 5 none]++g.drop 1))=none:=by
 have hr:rLook r p.1=some p.2:=rLook_in h.ok (h.w_at e p hp);have hn:rLook (rCut r p.1) p.1=none:=by rw[rLook_cut,if_pos rfl]
 refine h.mids e hp ha (w':=rPut (rCut r p.1) p.1 5) ?_ (fun q n=>by rw[rLook_put,if_neg n,look_cut n]) (fun b o=>⟨?_,rfl⟩) eg
 · rw[rPut_new hn]
   intro q hq;rcases List.mem_append.mp hq with z | z
   · exact h.lo.cut q z
   cases List.mem_singleton.mp z;exact h.lo p (h.w_at e p hp)
 rw[fw_cons_t (by show decide (some p.2=rLook r p.1)=true;rw[hr];exact decide_eq_true rfl),fw_cons_t (by show decide (none=rLook (rCut r p.1) p.1)=true;rw[hn];rfl)]
 rfl
end Wk
noncomputable def isSt:Thing->Bool
 | .step _ _ _=>true
 | _=>false
noncomputable def stN(T:List Thing):List Nat:=(List.range T.length).filter fun i=>match T[i]? with | some t=>isSt t | none=>false
theorem stN_cons(t:Thing)(T:List Thing):stN (t::T)=(if isSt t=true then[0]else[])++(stN T).map (· + 1):=by
 unfold stN;rw[List.length_cons,List.range_succ_eq_map,List.filter_cons,List.filter_map];show(if isSt t=true then 0::_ else _)=_;split <;> rfl
theorem stN_dd(k:Nat)(x:Option Int)(T:List Thing):stN (dd k x++T)=(stN T).map (· + (dd k x).length):=by
 cases x with
 | none=>exact(List.map_id _).symm
 | some y=>
   show stN (_::_::_::T)=_;rw[stN_cons,stN_cons,stN_cons];show[]++([]++([]++(stN T).map (· + 1)).map (· + 1)).map (· + 1)=(stN T).map (· + 3);rw[List.nil_append,List.nil_append,List.nil_append,List.map_map,List.map_map]
   rfl
theorem stN_walk(s:Seg)(ss:List Seg)(k:Nat):stN (walkT k (s::ss))=0::(stN (walkT (k+1) ss)).map (· + ((dd k s.x).length+1)):=by
 show stN (_::(dd k s.x++walkT (k+1) ss))=_;rw[stN_cons,stN_dd,List.map_map]
 rfl
theorem stN_last:∀(ss:List Seg) (k:Nat),ss≠[]->(stN (walkT k ss)).getLast?=some (lastI k ss)
 | [],_,h=>absurd rfl h
 | [s],k,_=>by rw[stN_walk];rfl
 | s::t::ss,k,_=>by
   rw[stN_walk,List.getLast?_cons,List.getLast?_map,stN_last (t::ss) (k+1) (by simp)]
   show some (lastI (k+1) (t::ss)+((dd k s.x).length+1))=some (lastI (k+1) (t::ss)+(dd k s.x).length+1)
   congr 1
theorem stN_mem{T:List Thing}{i:Nat}(h:i∈stN T):∃ c b Q,T[i]?=some (.step c b Q):=by
 obtain⟨_,h2⟩:=List.mem_filter.mp h;cases e:T[i]? with
 | none=>rw[e]at h2;cases h2
 | some t=>
   rw[e]at h2;cases t with
   | step c b Q=>exact⟨c,b,Q,rfl⟩
   | put _ _ _=>cases h2
   | look _ _=>cases h2
   | cut _ _=>cases h2
theorem stN_of{T:List Thing}{i:Nat}{c b:Int}{Q:MRow}(h:T[i]?=some (.step c b Q)):i∈stN T:=by
 refine List.mem_filter.mpr ⟨List.mem_range.mpr (List.getElem?_eq_some_iff.mp h).1,?_⟩;rw[h]
 rfl
theorem seg_at:∀(ss:List Seg) (k:Nat) (s:Seg),s∈ss -> ∃ i:Nat,(walkT k ss)[i]?=some (.step s.c s.b s.Q)
 | [],_,_,h=>(List.not_mem_nil h).elim
 | t::ss,k,s,h=>by
   rcases List.mem_cons.mp h with z | z
   · subst z;exact⟨0,rfl⟩
   obtain⟨i,hi⟩:=seg_at ss (k+1) s z;refine⟨(dd k t.x).length+i+1,?_⟩;show(dd k t.x++walkT (k+1) ss)[(dd k t.x).length+i]?=_;rw[List.getElem?_append_right (by omega),Nat.add_sub_cancel_left]
   exact hi
section
variable{X:Cx}
noncomputable def rInDT(K:W.Frag):R2:=fun x y H Q=>∃(d:PyData) (p:Addr) (xs:List V) (ds:List PyData),DatV K H x d/\y=.ref p/\SqT K H p xs/\DatVs K H xs ds/\d.canLay0=true/\PyData.canLayAll0 ds=true/\d.depth<=60/\Q (.bl (ds.any fun e=>PyData.eqv e d)) H
theorem op_inDT(K:W.Frag)(hu:X.A.units+64 < cLine)(hK:X.K=K:=by rfl):OpR X (compareOp .In) (rInDT K):=by
 subst hK;intro pins s σ H x y v u Q I rx ry h;obtain⟨d,p,xs,ds,hd,rfl,hl,hds,c1,c2,dp,q⟩:=h;obtain⟨as,r1⟩:=reads_of I hd rx;obtain⟨bs,r2⟩:=reads_of I (.tup hl hds) ry;refine SeqAt.in_tuple_reads r2 r1 c2 c1 ?_ ⟨.bl _,H,I,rfl,q⟩;have:=Nat.min_le_right (PyData.depthAll ds) d.depth;omega
end
end SW
namespace K
open PySem PySem.Spec PyProof.Rows L2 SW
end K
namespace SW
open PySem PySem.Spec PyProof.Rows L2
theorem wVarA{σ:L2.St}{H:Hp}{Q:VK}{v:V}{i:Nat}(h:Q v H)(e:σ[i]?=some (some v):=by with_unfolding_all exact rfl):tVar i σ H Q:=⟨v,e,h⟩
theorem wModA{H:Hp}{Q:VK}{g:Int->Int->V}{i j:Int}(h:Q (g i j) H)(c:0 < j:=by with_unfolding_all omega):rI (fun _ j=>0 < j) g (.int i) (.int j) H Q:=wMod c h
theorem wDivLA{H:Hp}{Q:VK}{g:Int->Int->V}{i j:Int}(h:Q (g i j) H)(c:0 < j/\j < 18446744073709551616:=by with_unfolding_all omega):rI CDivL g (.int i) (.int j) H Q:=wDivL c h
theorem wMulA{H:Hp}{Q:VK}{g:Int->Int->V}{i j:Int}(h:Q (g i j) H)(c:(-18446744073709551616 < i/\i < 18446744073709551616)∨(-18446744073709551616 < j/\j < 18446744073709551616):=by with_unfolding_all omega):rI CMul g (.int i) (.int j) H Q:=wMul c h
theorem wPowA{H:Hp}{Q:VK}{g:Int->Int->V}{i j:Int}(h:Q (g i j) H)(c:0<=j/\j<=1000000/\i.natAbs < 2 ^ 64:=by with_unfolding_all decide):rI CPow g (.int i) (.int j) H Q:=wPow c h
theorem wIxLA{K:W.Frag}{H:Hp}{Q:VK}{v:V}{p:Addr}{xs:List V}{i:Int}(h:Q v H)(e:H p=some (.lst xs):=by first | with_reducible assumption | exact upd_same)(a:atI xs i=some v:=by with_unfolding_all exact rfl):rIxL K (.ref p) (.int i) H Q:=wIxL e a h
theorem wIxTA{K:W.Frag}{H:Hp}{Q:VK}{v:V}{p:Addr}{xs:List V}{i:Int}(h:Q v H)(e:H p=some (.tup xs):=by first | with_reducible assumption | exact upd_same)(a:atI xs i=some v:=by with_unfolding_all exact rfl):rIxT K (.ref p) (.int i) H Q:=wIxT e a h
theorem wSetLA{H:Hp}{v:V}{p:Addr}{xs:List V}{i:Int}{j:Nat}{Q:Hp->Prop}(h:Q (upd H p (.lst (xs.set j v))))(e:H p=some (.lst xs):=by first | with_reducible assumption | exact upd_same)(hj:ixN xs.length i=some j:=by with_unfolding_all exact rfl):rSetL (.ref p) (.int i) v H Q:=wSetL e hj h
theorem wGoA{N N':L2.St->Hp->Prop}{σ:L2.St}{H:Hp}(h:N' σ H)(e:N=N':=by with_reducible assumption):N σ H:=wGo e h
end SW
namespace K
noncomputable section
open PySem PySem.Spec PyProof.Rows L2 SW
local macro_rules | `(tactic| walk_at "W0")=>do
 let h ← `(?_)
 let l ← `(fun _ _=>?_)
 let t ← ("wCons wNil wVarA".splitOn " ").foldrM (fun r t=>do
  let b ← `(tactic| with_reducible refine $(Lean.mkIdent (Lean.Name.mkStr `SW r)) $(if r == "wSeqC" || r == "wCut" then l else h))
  if r == "wIxLA" then `(tactic| first | (with_reducible show rIxL _ (V.ref _) (V.int _) _ _;$b:tactic) | $t:tactic)else if r == "wIxTA" then `(tactic| first | (with_reducible show rIxT _ (V.ref _) (V.int _) _ _;$b:tactic) | $t:tactic)else if r == "wSetLA" then `(tactic| first | (with_reducible show rSetL (V.ref _) (V.int _) _ _ _;$b:tactic) | $t:tactic)else `(tactic| first | $b:tactic | $t:tactic)) (← `(tactic| fail))
 `(tactic| repeat $t:tactic)
local macro_rules | `(tactic| walk_at "W1")=>do
 let h ← `(?_)
 let l ← `(fun _ _=>?_)
 let t ← ("wC wName wGoA".splitOn " ").foldrM (fun r t=>do
  let b ← `(tactic| with_reducible refine $(Lean.mkIdent (Lean.Name.mkStr `SW r)) $(if r == "wSeqC" || r == "wCut" then l else h))
  if r == "wIxLA" then `(tactic| first | (with_reducible show rIxL _ (V.ref _) (V.int _) _ _;$b:tactic) | $t:tactic)else if r == "wIxTA" then `(tactic| first | (with_reducible show rIxT _ (V.ref _) (V.int _) _ _;$b:tactic) | $t:tactic)else if r == "wSetLA" then `(tactic| first | (with_reducible show rSetL (V.ref _) (V.int _) _ _ _;$b:tactic) | $t:tactic)else `(tactic| first | $b:tactic | $t:tactic)) (← `(tactic| fail))
 `(tactic| repeat $t:tactic)
local macro_rules | `(tactic| walk_at "S")=>do
 let h ← `(?_)
 let l ← `(fun _ _=>?_)
 let t ← ("wITup wU wEnum wCompN wDGet wGoA".splitOn " ").foldrM (fun r t=>do
  let b ← `(tactic| with_reducible refine $(Lean.mkIdent (Lean.Name.mkStr `SW r)) $(if r == "wSeqC" || r == "wCut" then l else h))
  if r == "wIxLA" then `(tactic| first | (with_reducible show rIxL _ (V.ref _) (V.int _) _ _;$b:tactic) | $t:tactic)else if r == "wIxTA" then `(tactic| first | (with_reducible show rIxT _ (V.ref _) (V.int _) _ _;$b:tactic) | $t:tactic)else if r == "wSetLA" then `(tactic| first | (with_reducible show rSetL (V.ref _) (V.int _) _ _ _;$b:tactic) | $t:tactic)else `(tactic| first | $b:tactic | $t:tactic)) (← `(tactic| fail))
 return t
local macro_rules | `(tactic| walk_at "S")=>do
 let h ← `(?_)
 let l ← `(fun _ _=>?_)
 let t ← ("wDGet1 wDPop2 wItems wDPut wCompSet wSl wNoPart wPart".splitOn " ").foldrM (fun r t=>do
  let b ← `(tactic| with_reducible refine $(Lean.mkIdent (Lean.Name.mkStr `SW r)) $(if r == "wSeqC" || r == "wCut" then l else h))
  if r == "wIxLA" then `(tactic| first | (with_reducible show rIxL _ (V.ref _) (V.int _) _ _;$b:tactic) | $t:tactic)else if r == "wIxTA" then `(tactic| first | (with_reducible show rIxT _ (V.ref _) (V.int _) _ _;$b:tactic) | $t:tactic)else if r == "wSetLA" then `(tactic| first | (with_reducible show rSetL (V.ref _) (V.int _) _ _ _;$b:tactic) | $t:tactic)else `(tactic| first | $b:tactic | $t:tactic)) (← `(tactic| fail))
 return t
local macro_rules | `(tactic| walk_at "S")=>do
 let h ← `(?_)
 let l ← `(fun _ _=>?_)
 let t ← ("wChain wComp wInt1 wUn wFld wSFld wMeth wMake".splitOn " ").foldrM (fun r t=>do
  let b ← `(tactic| with_reducible refine $(Lean.mkIdent (Lean.Name.mkStr `SW r)) $(if r == "wSeqC" || r == "wCut" then l else h))
  if r == "wIxLA" then `(tactic| first | (with_reducible show rIxL _ (V.ref _) (V.int _) _ _;$b:tactic) | $t:tactic)else if r == "wIxTA" then `(tactic| first | (with_reducible show rIxT _ (V.ref _) (V.int _) _ _;$b:tactic) | $t:tactic)else if r == "wSetLA" then `(tactic| first | (with_reducible show rSetL (V.ref _) (V.int _) _ _ _;$b:tactic) | $t:tactic)else `(tactic| first | $b:tactic | $t:tactic)) (← `(tactic| fail))
 return t
local macro_rules | `(tactic| walk_at "S")=>do
 let h ← `(?_)
 let l ← `(fun _ _=>?_)
 let t ← ("wRet wDrop wNext wFor wIList wRng1 wAnd wOr".splitOn " ").foldrM (fun r t=>do
  let b ← `(tactic| with_reducible refine $(Lean.mkIdent (Lean.Name.mkStr `SW r)) $(if r == "wSeqC" || r == "wCut" then l else h))
  if r == "wIxLA" then `(tactic| first | (with_reducible show rIxL _ (V.ref _) (V.int _) _ _;$b:tactic) | $t:tactic)else if r == "wIxTA" then `(tactic| first | (with_reducible show rIxT _ (V.ref _) (V.int _) _ _;$b:tactic) | $t:tactic)else if r == "wSetLA" then `(tactic| first | (with_reducible show rSetL (V.ref _) (V.int _) _ _ _;$b:tactic) | $t:tactic)else `(tactic| first | $b:tactic | $t:tactic)) (← `(tactic| fail))
 return t
local macro_rules | `(tactic| walk_at "S")=>do
 let h ← `(?_)
 let l ← `(fun _ _=>?_)
 let t ← ("wSub wSetLA wNil wCons wLst wTup wCall wCB".splitOn " ").foldrM (fun r t=>do
  let b ← `(tactic| with_reducible refine $(Lean.mkIdent (Lean.Name.mkStr `SW r)) $(if r == "wSeqC" || r == "wCut" then l else h))
  if r == "wIxLA" then `(tactic| first | (with_reducible show rIxL _ (V.ref _) (V.int _) _ _;$b:tactic) | $t:tactic)else if r == "wIxTA" then `(tactic| first | (with_reducible show rIxT _ (V.ref _) (V.int _) _ _;$b:tactic) | $t:tactic)else if r == "wSetLA" then `(tactic| first | (with_reducible show rSetL (V.ref _) (V.int _) _ _ _;$b:tactic) | $t:tactic)else `(tactic| first | $b:tactic | $t:tactic)) (← `(tactic| fail))
 return t
local macro_rules | `(tactic| walk_at "S")=>do
 let h ← `(?_)
 let l ← `(fun _ _=>?_)
 let t ← ("wB wNot wNotV wAndV wOrV wBl wIxLA wIxTA".splitOn " ").foldrM (fun r t=>do
  let b ← `(tactic| with_reducible refine $(Lean.mkIdent (Lean.Name.mkStr `SW r)) $(if r == "wSeqC" || r == "wCut" then l else h))
  if r == "wIxLA" then `(tactic| first | (with_reducible show rIxL _ (V.ref _) (V.int _) _ _;$b:tactic) | $t:tactic)else if r == "wIxTA" then `(tactic| first | (with_reducible show rIxT _ (V.ref _) (V.int _) _ _;$b:tactic) | $t:tactic)else if r == "wSetLA" then `(tactic| first | (with_reducible show rSetL (V.ref _) (V.int _) _ _ _;$b:tactic) | $t:tactic)else `(tactic| first | $b:tactic | $t:tactic)) (← `(tactic| fail))
 return t
local macro_rules | `(tactic| walk_at "S")=>do
 let h ← `(?_)
 let l ← `(fun _ _=>?_)
 let t ← ("wModA wDivLA wMulA wPowA wEqI wNeI wIfS wTest".splitOn " ").foldrM (fun r t=>do
  let b ← `(tactic| with_reducible refine $(Lean.mkIdent (Lean.Name.mkStr `SW r)) $(if r == "wSeqC" || r == "wCut" then l else h))
  if r == "wIxLA" then `(tactic| first | (with_reducible show rIxL _ (V.ref _) (V.int _) _ _;$b:tactic) | $t:tactic)else if r == "wIxTA" then `(tactic| first | (with_reducible show rIxT _ (V.ref _) (V.int _) _ _;$b:tactic) | $t:tactic)else if r == "wSetLA" then `(tactic| first | (with_reducible show rSetL (V.ref _) (V.int _) _ _ _;$b:tactic) | $t:tactic)else `(tactic| first | $b:tactic | $t:tactic)) (← `(tactic| fail))
 return t
local macro_rules | `(tactic| walk_at "S")=>do
 let h ← `(?_)
 let l ← `(fun _ _=>?_)
 let t ← ("wSeqC wCut wAsg wName wOp wC wVarA wI0".splitOn " ").foldrM (fun r t=>do
  let b ← `(tactic| with_reducible refine $(Lean.mkIdent (Lean.Name.mkStr `SW r)) $(if r == "wSeqC" || r == "wCut" then l else h))
  if r == "wIxLA" then `(tactic| first | (with_reducible show rIxL _ (V.ref _) (V.int _) _ _;$b:tactic) | $t:tactic)else if r == "wIxTA" then `(tactic| first | (with_reducible show rIxT _ (V.ref _) (V.int _) _ _;$b:tactic) | $t:tactic)else if r == "wSetLA" then `(tactic| first | (with_reducible show rSetL (V.ref _) (V.int _) _ _ _;$b:tactic) | $t:tactic)else `(tactic| first | $b:tactic | $t:tactic)) (← `(tactic| fail))
 return t
local macro_rules | `(tactic| walk_at "W")=>`(tactic| repeat walk_at "S")
def top(i:Nat):Stmt:=PySem.Challenge.pw_slowshift_k32_where_walks_go_wrong.main.body.getD i (.Pass ⟨0,0,0,0⟩)
abbrev z7_:Stmt:=(top 2)
theorem z29_:FnScope ["thing"] ["thing"] (defScope z7_):=SW.fs
abbrev z6_:Stmt:=(top 3)
theorem z28_:FnScope ["thing"] ["thing"] (defScope z6_):=SW.fs
abbrev z0_:Stmt:=(inClass (top 5) 0)
theorem z22_:FnScope ["self"] ["self"] (defScope z0_):=SW.fs
abbrev z1_:Stmt:=(inClass (top 5) 1)
theorem z23_:FnScope ["self","thing"] ["self","thing"] (defScope z1_):=SW.fs
abbrev z2_:Stmt:=(inClass (top 5) 2)
theorem z24_:FnScope ["self","thing","key","before"] ["self","thing"] (defScope z2_):=SW.fs
abbrev z3_:Stmt:=(inClass (top 5) 3)
theorem z25_:FnScope ["self","cursor","following","pairs","pair"] ["self","cursor","following","pairs"] (defScope z3_):=SW.fs
abbrev z4_:Stmt:=(inClass (top 5) 4)
theorem z26_:FnScope ["self","pairs","unlike"] ["self","pairs"] (defScope z4_):=SW.fs
abbrev z21_:Stmt:=(top 6)
theorem z43_:FnScope ["following","cursor"] ["following","cursor"] (defScope z21_):=SW.fs
abbrev z5_:Stmt:=(top 7)
theorem z27_:FnScope ["story","listener","number","thing"] ["story"] (defScope z5_):=SW.fs
abbrev z10_:Stmt:=(top 9)
theorem z32_:FnScope ["script","k"] ["script","k"] (defScope z10_):=SW.fs
abbrev z12_:Stmt:=(top 10)
theorem z34_:FnScope ["cell","k","number"] ["cell","k"] (defScope z12_):=SW.fs
abbrev z15_:Stmt:=(top 11)
theorem z37_:FnScope ["cell"] ["cell"] (defScope z15_):=SW.fs
abbrev z18_:Stmt:=(top 12)
theorem z40_:FnScope ["pot","many","told"] ["pot","many"] (defScope z18_):=SW.fs
abbrev z20_:Stmt:=(top 13)
theorem z42_:FnScope ["pot"] ["pot"] (defScope z20_):=SW.fs
abbrev z13_:Stmt:=(top 14)
theorem z35_:FnScope ["plain","deed","told"] ["plain","deed"] (defScope z13_):=SW.fs
abbrev z14_:Stmt:=(top 15)
theorem z36_:FnScope ["pot","many","found","k"] ["pot","many"] (defScope z14_):=SW.fs
abbrev z19_:Stmt:=(top 16)
theorem z41_:FnScope ["pot","plain","points","keys","spots","story","k","pairs","worth"] ["pot","plain","points"] (defScope z19_):=SW.fs
abbrev z9_:Stmt:=(top 17)
theorem z31_:FnScope ["pot","plain","story","k"] ["pot"] (defScope z9_):=SW.fs
abbrev z16_:Stmt:=(top 18)
theorem z38_:FnScope ["story","at","row"] ["story","at","row"] (defScope z16_):=SW.fs
abbrev z11_:Stmt:=(top 19)
theorem z33_:FnScope ["pot","walk","steps","plain","at","word","cursor","behind","pairs","held","full","without","gone","some","other","cut","put"] ["pot","walk","steps","plain"] (defScope z11_):=SW.fs
abbrev z17_:Stmt:=(top 20)
theorem z39_:FnScope ["pot","story","plain","walk","steps","whole","bad","at","found"] ["pot","story","plain"] (defScope z17_):=SW.fs
abbrev z8_:Stmt:=(top 21)
theorem z30_:FnScope ["script","cell","pot","story","plain"] ["script"] (defScope z8_):=SW.fs
structure Gs(K:W.Frag)(mg:Str->Option Value)(C:Addr):Prop where
 c_LAST_POINT:∃ t,mg "LAST_POINT"=some (.int 65535 t)
 cl_Listener:Cls K C
 n_Listener_worths:NoAttr K C "worths"
 n_Listener_cursor:NoAttr K C "cursor"
 n_Listener_owed:NoAttr K C "owed"
 b_int:mg "int"=none
 b_bool:mg "bool"=none
 b_isinstance:mg "isinstance"=none
 b_range:mg "range"=none
 b_len:mg "len"=none
 b_list:mg "list"=none
 b_tuple:mg "tuple"=none
 b_max:mg "max"=none
 b_set:mg "set"=none
 b_dict:mg "dict"=none
 b_all:mg "all"=none
 b_sorted:mg "sorted"=none
 b_enumerate:mg "enumerate"=none
theorem hu1_of{A:Around}{k:Nat}(hr:Room k A):A.units < cLine:=Nat.lt_of_le_of_lt (Nat.le_add_right _ 1) (hu_of hr)
-- ThV LamH S58
section
variable{P:Program}{w:World}{K:W.Frag}{mg:Str->Option Value}{base:Heap}{C:Addr}
theorem q26_(d:Dfn K mg "is_whole" z7_ ["thing"])(g:Gs K mg C):Fn P w K mg base "is_whole" 1 ["thing"] spWhole:=by
 refine d.fn z29_ (fun vs H Q E h=>?_) (fun f cdv A outer s H vs Q E hr h=>?_)
 · obtain⟨n,rfl,_⟩:=h
   rfl
 obtain⟨n,rfl,q⟩:=h;refine⟨_,(B.sone (B.ret (B.and (B.cB SW.call_isi g.b_isinstance SW.b_isinstance (B.cons (B.v 0) (B.cons (B.ty g.b_int SW.b_int) B.nil))) (B.one (B.not (B.cB SW.call_isi g.b_isinstance SW.b_isinstance (B.cons (B.v 0) (B.cons (B.ty g.b_bool SW.b_bool) B.nil)))))))),?_⟩;walk_at "W";refine SW.iIsi (.int n) isi_int_int ?_;walk_at "W";refine iteT ?_;walk_at "W";refine SW.iIsi (.int n) isi_int_bool ?_;walk_at "W";exact q
def spIsP:Sp:=fun vs H Q _=>∃ n:Int,vs=[.int n]/\Q (.bl (decide (0<=n/\n<=65535))) H
theorem q6_(d:Dfn K mg "is_point" z6_ ["thing"])(g:Gs K mg C)(q5_:Fn P w K mg base "is_whole" 1 ["thing"] spWhole):Fn P w K mg base "is_point" 2 ["thing"] spIsP:=by
 refine d.fn z28_ (fun vs H Q E h=>?_) (fun f cdv A outer s H vs Q E hr h=>?_)
 · obtain⟨n,rfl,_⟩:=h
   rfl
 obtain⟨n,rfl,q⟩:=h;refine⟨_,(B.sone (B.ret (B.and (B.fn q5_ hr.up (B.cons (B.v 0) B.nil)) (B.one (B.chain op_le op_le B.int (B.v 0) (B.gint g.c_LAST_POINT)))))),?_⟩;walk_at "W";refine⟨_,rfl,?_⟩;walk_at "W";refine iteT ?_;walk_at "W";by_cases h0:0<=n
 · refine iteY h0 ?_
   walk_at "W";have e:decide (n<=65535)=decide (0<=n/\n<=65535):=by simp[h0]
   rw[e];exact q
 refine iteNo h0 ?_;have e:decide (0<=n/\n<=65535)=false:=by simp[h0]
 rw[e]at q;exact q
theorem q17_(d:Dfn K mg "may_follow" z21_ ["following","cursor"])(q4_:Fn P w K mg base "is_point" 2 ["thing"] spIsP):Fn P w K mg base "may_follow" 3 ["following","cursor"] spMayF:=by
 refine d.fn z43_ (fun vs H Q E h=>?_) (fun f cdv A outer s H vs Q E hr h=>?_)
 · obtain⟨b,c,rfl,_⟩:=h
   rfl
 obtain⟨b,c,rfl,q⟩:=h;refine⟨_,(B.sone (B.ret (B.or (B.cmp op_eq (B.v 0) B.int) (B.one (B.and (B.fn q4_ hr.up (B.cons (B.v 0) B.nil)) (B.one (B.cmp op_gt (B.v 0) (B.v 1)))))))),?_⟩;walk_at "W";unfold mayF at q;by_cases h0:b=0
 · rw[decide_eq_true h0,Bool.true_or]at q
   refine iteY (by rw[h0]) ?_
   exact q
 rw[decide_eq_false h0,Bool.false_or]at q;refine iteNo (fun z=>h0 (by injection z)) ?_
 walk_at "W";refine⟨_,rfl,?_⟩;walk_at "W";by_cases h1:0<=b/\b<=65535
 · rw[decide_eq_true h1,Bool.true_and]at q
   refine iteY h1 ?_;walk_at "W";exact q
 rw[decide_eq_false h1,Bool.false_and]at q;refine iteNo h1 ?_;exact q
theorem L_init(d:Dk K mg C "Listener" "Listener.__init__" z0_ ["self"])(g:Gs K mg C):Mkr P w K mg base C "Listener" 1 ["self"] (spLInit C):=by
 refine d.mk' z22_ (fun vs H Q E h=>?_) (fun f cdv A outer s H vs Q E hr h=>?_)
 · obtain⟨x,dx,rfl,_⟩:=h
   rfl
 obtain⟨x,dx,rfl,hx,q⟩:=h;refine⟨_,(B.scons (B.sfld (B.v 0) B.dnew)
  (B.scons (B.sfld (B.v 0) B.int)
  (B.sone (B.sfld (B.v 0) B.dnew)))),?_⟩
 walk_at "W";intro wa hwa;have nw:x≠wa:=ne_of_none hx hwa;walk_at "W";refine SW.iSFld (by rw[upd_ne nw];exact hx) g.cl_Listener g.n_Listener_worths (by show 0 < 1000;decide) ?_
 walk_at "W";refine SW.iSFld upd_same g.cl_Listener g.n_Listener_cursor (by show 1 < 1000;decide) ?_
 walk_at "W";intro oa hoa;have no:x≠oa:=ne_of_none upd_same hoa;rw[upd_ne no.symm,upd_ne no.symm]at hoa;have nwo:wa≠oa:=fun z=>by rw[z,upd_same]at hoa;cases hoa
 have hoa0:H oa=none:=by rw[upd_ne nwo.symm]at hoa;exact hoa
 walk_at "W";refine SW.iSFld (by rw[upd_ne no];exact upd_same) g.cl_Listener g.n_Listener_owed (by show 2 < 1000;decide) ?_
 walk_at "W";refine q _ wa oa ⟨⟨dx,upd_same⟩,?_,?_,List.nodup_nil,List.nodup_nil,nwo⟩ hwa hoa0 fun b o nb e=>?_
 · rw[upd_ne nw.symm,upd_ne nwo,upd_ne nw.symm,upd_ne nw.symm,upd_same];rfl
 · rw[upd_ne no.symm,upd_same];rfl
 rw[upd_ne nb,upd_ne (ne_of_none e hoa0),upd_ne nb,upd_ne nb,upd_ne (ne_of_none e hwa)];exact e
theorem L_deed(d:Dm K C "agrees_to_deed" "Listener.agrees_to_deed" z2_ ["self","thing"])(g:Gs K mg C):Mt P w K mg base C "agrees_to_deed" 1 ["self","thing"] (spDeedA C):=by
 refine d.mt z24_ (fun vs H Q E h=>?_) (fun f cdv A outer s H vs Q E hr h=>?_)
 · obtain⟨p,wa,oa,v,L,th,rfl,_⟩:=h
   rfl
 obtain⟨p,wa,oa,v,L,th,rfl,X,hv,hd,hl,q⟩:=h;obtain⟨dx,hp⟩:=X.ob;have hw:=X.hw;have hlen:(kvs L.w).length < sizeLine:=by rw[kvs_len];exact Nat.lt_of_le_of_lt hl (by decide)
 refine⟨_,(B.scons (B.set 2 z24_.nd (B.ix ix_tup (B.v 1) B.int))
  (B.scons (B.set 3 z24_.nd (B.dget1 (hu_of hr) (B.fld (B.v 0)) (B.v 2) (m:=B.m1)))
  (B.scons (B.ifs (B.tcmp op_eq (B.ix ix_tup (B.v 1) B.int) B.str) (B.sone (B.dput (hu_of hr) (B.fld (B.v 0)) (B.v 2) (B.ix ix_tup (B.v 1) B.int))) B.snil)
  (B.scons (B.ifs (B.tcmp op_eq (B.ix ix_tup (B.v 1) B.int) B.str) (B.scons (B.expr (B.dpop2 (B.fld (B.v 0)) (B.v 2) B.non (m:=B.m2)))
  (B.sone (B.expr (B.dpop2 (B.fld (B.v 0)) (B.v 2) B.non (m:=B.m2))))) B.snil)
  (B.sone (B.ret (B.cmp op_eq (B.ix ix_tup (B.v 1) (B.un un_neg B.int)) (B.v 3)))))))),?_⟩
 cases th with
 | put k y t=>
   obtain⟨u,rfl,hu⟩:=hv;have hu2:upd H wa (.dK (kvs (rPut L.w k y))) u=some (.tup [.str "put",.int k,.int y,oV t]):=by rw[upd_ne (ne_of hu hw (by intro z;cases z))];exact hu
   walk_at "W";refine SW.iFld hp g.cl_Listener g.n_Listener_worths rfl ?_;walk_at "W";refine⟨wa,rfl,.inl ⟨_,.inl hw⟩,?_⟩;walk_at "W";refine⟨_,DGet.k (k:=Sum.inl k) hw,?_⟩;rw[oV_getD];walk_at "W";refine⟨rfl,?_⟩;walk_at "W";refine iteY rfl ?_;walk_at "W";refine SW.iFld hp g.cl_Listener g.n_Listener_worths rfl ?_;walk_at "W";refine⟨wa,_,rfl,DPut.k (k:=Sum.inl k) hw hlen,?_⟩;rw[putK_kvs];walk_at "W";refine⟨rfl,?_⟩;walk_at "W";refine iteNo (str_ne (by decide +kernel)) ?_
   walk_at "W";refine⟨oV_scal _ _,?_⟩;rw[oV_inj];exact q _ oa (X.setw (rPut_ok X.kw)) (.inl rfl) (Fr.updw X)
 | look k t=>
   obtain⟨u,rfl,hu⟩:=hv;walk_at "W";refine SW.iFld hp g.cl_Listener g.n_Listener_worths rfl ?_;walk_at "W";refine⟨wa,rfl,.inl ⟨_,.inl hw⟩,?_⟩;walk_at "W";refine⟨_,DGet.k (k:=Sum.inl k) hw,?_⟩;rw[oV_getD];walk_at "W";refine⟨rfl,?_⟩;walk_at "W";refine iteNo (str_ne (by decide +kernel)) ?_
   walk_at "W";refine⟨rfl,?_⟩;walk_at "W";refine iteNo (str_ne (by decide +kernel)) ?_
   walk_at "W";refine⟨oV_scal _ _,?_⟩;rw[oV_inj];exact q _ oa X (.inl rfl) (Fr.refl _ _)
 | cut k t=>
   obtain⟨u,rfl,hu⟩:=hv;walk_at "W";refine SW.iFld hp g.cl_Listener g.n_Listener_worths rfl ?_;walk_at "W";refine⟨wa,rfl,.inl ⟨_,.inl hw⟩,?_⟩;walk_at "W";refine⟨_,DGet.k (k:=Sum.inl k) hw,?_⟩;rw[oV_getD];walk_at "W";refine⟨rfl,?_⟩;walk_at "W";refine iteNo (str_ne (by decide +kernel)) ?_
   walk_at "W";refine⟨rfl,?_⟩;walk_at "W";refine iteY rfl ?_;walk_at "W";refine SW.iFld hp g.cl_Listener g.n_Listener_worths rfl ?_;walk_at "W";refine⟨wa,rfl,.inl ⟨_,.inl hw⟩,?_⟩;walk_at "W";refine pop_any hw (fun H1 h1 v=>?_);have X1:LsX C H1 p ⟨rCut L.w k,L.c,L.o⟩ wa oa:=by rw[h1];exact X.setw (rCut_ok X.kw)
   have F1:Fr (fp p wa oa) H H1:=by rw[h1];exact Fr.updw X
   have hu1:=X.tk F1 _ _ hu;obtain⟨dx1,hp1⟩:=X1.ob;have ho1:=X1.ho;walk_at "W";refine SW.iFld hp1 g.cl_Listener g.n_Listener_owed rfl ?_;walk_at "W";refine⟨oa,rfl,.inl ⟨_,.inl ho1⟩,?_⟩;walk_at "W";refine pop_any ho1 (fun H2 h2 v=>?_);have X2:LsX C H2 p ⟨rCut L.w k,L.c,rCut L.o k⟩ wa oa:=by rw[h2];exact X1.seto (rCut_ok X1.ko)
   have F2:Fr (fp p wa oa) H H2:=F1.trans (by rw[h2];exact Fr.updo X1)
   have hu2:=X.tk F2 _ _ hu;walk_at "W";refine⟨oV_scal _ _,?_⟩;rw[oV_inj];exact q _ oa X2 (.inl rfl) F2
 | step a b c=>cases hd
theorem L_has(d:Dm K C "has_all" "Listener.has_all" z4_ ["self","pairs"])(g:Gs K mg C):Mt P w K mg base C "has_all" 1 ["self","pairs"] (spHasAll C):=by
 refine d.mt z26_ (fun vs H Q E h=>?_) (fun f cdv A outer s H vs Q E hr h=>?_)
 · obtain⟨p,q,wa,oa,L,xs,ps,rfl,_⟩:=h
   rfl
 obtain⟨p,q,wa,oa,L,xs,ps,rfl,X,hq,hps,hl,k⟩:=h;have hxl:=hps.len;refine⟨_,(B.scons (B.set 2 z26_.nd (B.cmp op_eq (B.cB SW.call_lenS g.b_len SW.b_len (B.cons (B.cT SW.call_setL g.b_set SW.b_set (B.cons (SW.B.comp [] ["pair"] (SW.CompScope.of rfl rfl (by decide +kernel) (by decide +kernel) rfl trivial rfl rfl rfl) (by decide +kernel) (B.itup (B.v 1)) (fun _ _ _ _=>(B.ix (SW.ix_tupK K) (B.v 0) B.int))) B.nil)) B.nil)) (B.cB call_len_seq g.b_len SW.b_len (B.cons (B.v 1) B.nil))))
  (B.sone (B.ret (B.and (B.v 2) (B.one (B.cB SW.call_allL g.b_all SW.b_all (B.cons (SW.B.compN ["key","worth"] [0] ["key","worth","self"] (SW.CompScopeN.of rfl rfl (by decide +kernel) (by decide +kernel) ⟨rfl,trivial⟩ rfl rfl rfl) (B.itup (B.v 1)) (fun _ _ _ _=>(B.gtupK K (n:=2) (B.gcons (B.gname (i:=0) (show(["key","worth","self"]:List Str).Nodup by decide +kernel)) (B.gcons (B.gname (i:=1) (show(["key","worth","self"]:List Str).Nodup by decide +kernel)) B.gnil)))) (fun _ _ _ _=>(B.cmp op_eq (B.dget1 (hu_of hr) (B.fldK K (B.v 2)) (B.v 0) (m:=B.m1)) (B.v 1)))) B.nil))))))),?_⟩
 walk_at "W";refine⟨q,rfl,⟨_,SqT.of hq⟩,fun D hD=>?_⟩;refine comp_tupU (xs:=xs) (fun i σ' H'=>∃ v,σ'=[v]/\Same H H'/\H' D=some (.lst (((ps.take i).map (·.1)).map V.int))) ⟨none,rfl,Same.new hD,upd_same⟩ (fun i σ' H' _ ⟨v,_,s',_⟩=>SqT.of (s' _ _ hq)) ?_ ?_
 · rintro i x σ' H' hx hi ⟨v,rfl,s',hD'⟩
   obtain⟨pp,hpp,a,rfl,ha⟩:=paired_get hps hx;have ha':=s' _ _ ha;have hDn:=fun b o (e:H b=some o)=>ne_of_none e hD;walk_at "W";refine CN.mk hi hD' (by rw[List.length_map,List.length_map,List.length_take];exact Nat.lt_of_le_of_lt (Nat.le_trans (Nat.min_le_right ..) hl) (by decide)) ⟨_,rfl,fun b o e=>by rw[upd_ne (hDn b o e)];exact s' _ _ e,?_⟩
   rw[upd_same,List.take_add_one,hpp];simp
 rintro σ' H' ⟨v,rfl,s',hD'⟩;rw[hxl,List.take_length]at hD';walk_at "W";refine⟨D,ps.map (·.1),rfl,SqL.of hD',by rw[List.length_map];omega,rfl,fun a S ha=>?_⟩
 have s2:=s'.trans (Same.new (o:=.set S (nDist (ps.map (·.1)))) ha);walk_at "W";refine⟨a,S,_,rfl,upd_same,?_⟩;walk_at "W";refine SW.iLen (.inr (SqT.of (s2 _ _ hq))) ?_;walk_at "W";rw[hxl];have X2:=X.same s2;by_cases hn:nDist (ps.map (·.1))=ps.length
 · refine iteY (by rw[hn]) ?_
   walk_at "W";refine⟨q,rfl,⟨_,SqT.of (s2 _ _ hq)⟩,fun D2 hD2=>?_⟩;obtain⟨H2,hH2⟩:∃ H2,H2=upd H' a (.set S (nDist (ps.map (·.1)))):=⟨_,rfl⟩;rw[← hH2]at s2 hD2 X2 ⊢;clear hH2;refine compN_tup (tt:=fun _ H Q=>Q true H) (xs:=xs) (fun i σ' H'=>(∃ v0 v1,σ'=[v0,v1,some (.ref p)])/\Same H2 H'/\H' D2=some (.lst (((ps.take i).map fun q=>decide (rLook L.w q.1=some q.2)).map V.bl))) ⟨⟨none,none,rfl⟩,Same.new hD2,upd_same⟩ (fun i σ' H' _ ⟨_,s',_⟩=>SqT.of (s' _ _ (s2 _ _ hq))) ?_ ?_
   · rintro i x σ' H' hx hi ⟨⟨v0,v1,rfl⟩,s',hD'⟩
     obtain⟨⟨k1,y1⟩,hpp,a,rfl,ha⟩:=paired_get hps hx;have ha':=s' _ _ (s2 _ _ ha);have X':=X2.same s';obtain⟨dx,hp⟩:=X'.ob;have hDn:=fun b o (e:H2 b=some o)=>ne_of_none e hD2;refine⟨a,_,rfl,SqT.of ha',rfl,_,_,rfl,?_⟩;walk_at "W";refine⟨_,_,rfl,?_⟩;walk_at "W";refine⟨rfl,?_⟩;refine iteT ?_;walk_at "W";refine SW.iFld hp g.cl_Listener g.n_Listener_worths rfl ?_;walk_at "W";refine⟨wa,rfl,.inl ⟨_,.inl X'.hw⟩,?_⟩;walk_at "W";refine⟨_,DGet.k (k:=Sum.inl k1) X'.hw,?_⟩;rw[oV_getD];walk_at "W";refine⟨oV_scal _ (some y1),?_⟩;rw[show V.int y1=oV (some y1)from rfl,oV_inj];refine CN.mk hi hD' (by rw[List.length_map,List.length_map,List.length_take];exact Nat.lt_of_le_of_lt (Nat.le_trans (Nat.min_le_right ..) hl) (by decide)) ⟨⟨_,_,rfl⟩,fun b o e=>by rw[upd_ne (hDn b o e)];exact s' _ _ e,?_⟩
     rw[upd_same,List.take_add_one,hpp];simp
   rintro σ' H' ⟨⟨v0,v1,rfl⟩,s',hD'⟩;rw[hxl,List.take_length]at hD';walk_at "W";refine⟨D2,_,rfl,SqL.of hD',rfl,?_⟩;have e:hasAll L.w ps=List.all (ps.map fun q=>decide (rLook L.w q.1=some q.2)) id:=by
    unfold hasAll;rw[decide_eq_true hn,Bool.true_and,List.all_map]
    rfl
   rw[← e];exact k _ (s2.trans s')
 refine iteNo (fun z=>hn (by injection z with z;omega)) ?_
 have e:hasAll L.w ps=false:=by
  unfold hasAll;rw[decide_eq_false hn,Bool.false_and]
 have k':=k _ s2;rw[e]at k';exact k'
theorem L_step(d:Dm K C "agrees_to_step" "Listener.agrees_to_step" z3_ ["self","cursor","following","pairs"])(g:Gs K mg C)(q18_:Fn P w K mg base "may_follow" 3 ["following","cursor"] spMayF)(q32_:Mt P w K mg base C "has_all" 1 ["self","pairs"] (spHasAll C)) :
 Mt P w K mg base C "agrees_to_step" 4 ["self","cursor","following","pairs"] (spStepA C):=by
 refine d.mt z25_ (fun vs H Q E h=>?_) (fun f cdv A outer s H vs Q E hr h=>?_)
 · obtain⟨p,q,wa,oa,c,b,L,xs,ps,rfl,_⟩:=h
   rfl
 obtain⟨p,q,wa,oa,c,b,L,xs,ps,rfl,X,hq,hps,hl,hwl,k⟩:=h;obtain⟨dx,hp⟩:=X.ob;have hxl:=hps.len;have no:stepOk L c b ps=false->Q (.bl false) H:=fun z=>by
  have e1:agr L (.step c b ps)=false:=by show(stepOk L c b ps && _)=false;rw[z];rfl
  have e2:nextL L (.step c b ps)=L:=by show(if stepOk L c b ps=true then _ else _)=_;rw[z];rfl
  have k':=k H oa (by rw[e2];exact X) (.inl rfl) (Fr.refl _ _)
  rw[e1]at k';exact k'
 refine⟨_,(B.scons (B.ifs (B.tw (B.wor (B.tcmp op_ne (B.v 1) (B.fld (B.v 0))) (B.wor (B.tnot (B.tval (B.fn q18_ hr.up (B.cons (B.v 2) (B.cons (B.v 1) B.nil))))) (B.wor1 (B.tnot (B.tval (B.meth (B.v 0) g.cl_Listener q32_ hr.up (B.cons (B.v 3) B.nil)))))))) (B.sone (B.ret B.bl)) B.snil)
  (B.scons (B.ifs (B.tcmp op_eq (B.v 1) B.int) (B.sone (B.sfld (B.v 0) (B.cT SW.call_dictD g.b_dict SW.b_dict (B.cons (B.fld (B.v 0)) B.nil)))) B.snil)
  (B.scons (B.fors (B.itup (B.v 3)) (B.gname (i:=4) z25_.nd) (B.sone (B.expr (B.dpop2 (B.fld (B.v 0)) (B.ix ix_tup (B.v 4) B.int) B.non (m:=B.m2)))))
  (B.scons (B.sfld (B.v 0) (B.v 2))
  (B.sone (B.ret (B.or (B.cmp op_ne (B.v 2) B.int) (B.one (B.cmp op_eq (B.cB call_lenD g.b_len SW.b_len (B.cons (B.fld (B.v 0)) B.nil)) B.int))))))))),?_⟩
 walk_at "W";refine SW.iFld hp g.cl_Listener g.n_Listener_cursor rfl ?_;walk_at "W";by_cases hc:c=L.c
 · rw[show decide (V.int c=V.int L.c)=true from decide_eq_true (by rw[hc])]
   refine iteF ?_;walk_at "W";refine wMayF ?_;walk_at "W";by_cases hm:mayF b c=true
   · rw[hm]
     refine iteF ?_;walk_at "W";refine⟨p,dx,_,rfl,hp,rfl,?_⟩;walk_at "W";refine wHasAll X hq hps hl fun H1 s1=>?_;have X1:=X.same s1;have hq1:=s1 _ _ hq;walk_at "W";by_cases hh:hasAll L.w ps=true
     · rw[hh]
       refine iteF ?_;have hok:stepOk L c b ps=true:=by
        unfold stepOk;rw[decide_eq_true hc,hm,hh];rfl
       walk_at "W";rename_i N1 hN1;have rest:∀ H2 oa2,LsX C H2 p ⟨L.w,L.c,if c=0 then L.w else L.o⟩ wa oa2->(oa2=oa∨H oa2=none)->Fr (fp p wa oa) H H2->N1 [some (.ref p),some (.int c),some (.int b),some (.ref q),none] H2:=by
        intro H2 oa2 X2 g2 f2;have hq2:=X.tk f2 _ _ hq;have hps2:=hps.keep (X.tk f2);refine SW.wGo hN1 ?_;walk_at "W";refine⟨q,rfl,⟨_,SqT.of hq2⟩,?_⟩;refine for_tup (xs:=xs) (fun i σ H'=>∃ v,σ=[some (.ref p),some (.int c),some (.int b),some (.ref q),v]/\LsX C H' p ⟨L.w,L.c,cutAll (if c=0 then L.w else L.o) (ps.take i)⟩ wa oa2/\Fr (fp p wa oa2) H2 H') ⟨none,rfl,X2,Fr.refl _ _⟩ (fun i σ H' _ ⟨v,_,X',f'⟩=>SqT.of (X2.tk f' _ _ hq2)) ?_ ?_
        · rintro i x σ H' hx ⟨v,rfl,X',f'⟩
          obtain⟨⟨k1,y1⟩,hpp,a,rfl,ha⟩:=paired_get hps2 hx;have ha':=X2.tk f' _ _ ha;obtain⟨dx',hp'⟩:=X'.ob;walk_at "W";refine SW.iFld hp' g.cl_Listener g.n_Listener_owed rfl ?_;walk_at "W";refine⟨oa2,rfl,.inl ⟨_,.inl X'.ho⟩,?_⟩;walk_at "W";refine pop_any X'.ho (fun H3 h3 v=>?_);refine⟨_,rfl,?_,f'.trans (by rw[h3];exact Fr.updo X')⟩
          rw[List.take_add_one,hpp];show LsX C H3 p ⟨L.w,L.c,cutAll _ (ps.take i++[(k1,y1)])⟩ wa oa2;rw[cutAll_snoc,h3];exact X'.seto (rCut_ok X'.ko)
        rintro σ H' ⟨v,rfl,X',f'⟩;rw[hxl,List.take_length]at X';obtain⟨dx',hp'⟩:=X'.ob;walk_at "W";refine SW.iSFld hp' g.cl_Listener g.n_Listener_cursor (by show 3 < 1000;decide) ?_
        have X4:LsX C (upd H' p (.ins C dx' (putF "cursor" (.int b) [("worths",.ref wa),("cursor",.int L.c),("owed",.ref oa2)]))) p ⟨L.w,b,owe L c ps⟩ wa oa2:=
         ⟨⟨dx',upd_same⟩,by rw[upd_ne X'.npw.symm];exact X'.hw,by rw[upd_ne X'.npo.symm];exact X'.ho,X'.kw,X'.ko,X'.ne⟩
        have F4:Fr (fp p wa oa) H (upd H' p (.ins C dx' (putF "cursor" (.int b) [("worths",.ref wa),("cursor",.int L.c),("owed",.ref oa2)]))):=fun b o n e=>by
         rw[upd_ne fun z=>n (.inl z)];refine f' b o (fun z=>?_) (f2 b o n e);rcases z with z | z | z
         · exact n (.inl z)
         · exact n (.inr (.inl z))
         rcases g2 with g2 | g2
         · exact n (.inr (.inr (z.trans g2)))
         rw[z,g2]at e;cases e
        have e2:nextL L (.step c b ps)=⟨L.w,b,owe L c ps⟩:=by show(if stepOk L c b ps=true then _ else _)=_;rw[hok];rfl
        have e1:agr L (.step c b ps)=(decide (b≠0) || (owe L c ps).isEmpty):=by show(stepOk L c b ps && _)=_;rw[hok];rfl
        have k':=k _ oa2 (by rw[e2];exact X4) g2 F4
        rw[e1]at k';obtain⟨dx4,hp4⟩:=X4.ob;walk_at "W";by_cases hb:b=0
        · rw[show decide (V.int b=V.int 0)=true from decide_eq_true (by rw[hb])]
          rw[show decide (b≠0)=false from decide_eq_false (fun z=>z hb),Bool.false_or]at k';refine iteF ?_;walk_at "W";refine SW.iFld hp4 g.cl_Listener g.n_Listener_owed rfl ?_;walk_at "W";refine⟨oa2,_,rfl,X4.ho,?_⟩;walk_at "W";rw[kvs_len];have e:decide (V.int ((owe L c ps).length:Nat)=V.int 0)=(owe L c ps).isEmpty:=by
           rw[dec_int];cases owe L c ps with
           | nil=>rfl
           | cons a b=>show(((b.length+1:Nat):Int) == 0)=false;rw[beq_eq_false_iff_ne];omega
          rw[e];exact k'
        rw[show decide (V.int b=V.int 0)=false from decide_eq_false (fun z=>hb (by injection z))]
        rw[show decide (b≠0)=true from decide_eq_true hb,Bool.true_or]at k';refine iteT ?_;exact k'
       by_cases hc0:c=0
       · refine iteY (by rw[hc0]) ?_
         obtain⟨dx1,hp1⟩:=X1.ob;walk_at "W";refine SW.iFld hp1 g.cl_Listener g.n_Listener_worths rfl ?_;walk_at "W";refine⟨wa,_,rfl,X1.hw,fun oa2 ho2=>?_⟩;have np2:p≠oa2:=ne_of_none hp1 ho2;have nw2:wa≠oa2:=ne_of_none X1.hw ho2;walk_at "W";refine SW.iSFld (by rw[upd_ne np2];exact hp1) g.cl_Listener g.n_Listener_owed (by show 3 < 1000;decide) ?_
         refine rest _ oa2 ⟨⟨dx1,upd_same⟩,?_,?_,X.kw,?_,nw2⟩ (.inr (s1.free ho2)) fun b o n e=>?_
         · rw[upd_ne X1.npw.symm,upd_ne nw2];exact X1.hw
         · rw[upd_ne np2.symm,upd_same,if_pos hc0]
         · show ROk (if c=0 then L.w else L.o)
           rw[if_pos hc0];exact X.kw
         rw[upd_ne fun z=>n (.inl z),upd_ne (ne_of_none (s1 _ _ e) ho2)];exact s1 _ _ e
       refine iteNo (fun z=>hc0 (by injection z)) ?_
       refine rest H1 oa ?_ (.inl rfl) (Fr.same s1);rw[if_neg hc0];exact X1
     rw[Bool.not_eq_true]at hh;rw[hh];refine iteT ?_;walk_at "W";have e1:stepOk L c b ps=false:=by unfold stepOk;rw[hh,Bool.and_false]
     have e2:agr L (.step c b ps)=false:=by show(stepOk L c b ps && _)=false;rw[e1];rfl
     have e3:nextL L (.step c b ps)=L:=by show(if stepOk L c b ps=true then _ else _)=_;rw[e1];rfl
     have k':=k H1 oa (by rw[e3];exact X1) (.inl rfl) (Fr.same s1)
     rw[e2]at k';exact k'
   rw[Bool.not_eq_true]at hm;rw[hm];refine iteT ?_;walk_at "W";exact no (by unfold stepOk;rw[hm,Bool.and_false,Bool.false_and])
 rw[show decide (V.int c=V.int L.c)=false from decide_eq_false (fun z=>hc (by injection z))]
 refine iteT ?_;walk_at "W";exact no (by unfold stepOk;rw[decide_eq_false hc,Bool.false_and,Bool.false_and])
theorem L_agrees(d:Dm K C "agrees" "Listener.agrees" z1_ ["self","thing"])(g:Gs K mg C)(q30_:Mt P w K mg base C "agrees_to_deed" 1 ["self","thing"] (spDeedA C))(q31_:Mt P w K mg base C "agrees_to_step" 4 ["self","cursor","following","pairs"] (spStepA C)) :
 Mt P w K mg base C "agrees" 5 ["self","thing"] (spAgrees C):=by
 refine d.mt z23_ (fun vs H Q E h=>?_) (fun f cdv A outer s H vs Q E hr h=>?_)
 · obtain⟨p,wa,oa,v,L,th,rfl,_⟩:=h
   rfl
 obtain⟨p,wa,oa,v,L,th,rfl,X,hv,hf,hl,k⟩:=h;obtain⟨dx,hp⟩:=X.ob;refine⟨_,(B.scons (B.ifs (B.tcmp op_eq (B.ix ix_tup (B.v 1) B.int) B.str) (B.sone (B.ret (B.meth (B.v 0) g.cl_Listener q31_ hr.up (B.cons (B.ix ix_tup (B.v 1) B.int) (B.cons (B.ix ix_tup (B.v 1) B.int) (B.cons (B.ix ix_tup (B.v 1) B.int) B.nil)))))) B.snil)
  (B.sone (B.ret (B.meth (B.v 0) g.cl_Listener q30_ hr.up (B.cons (B.v 1) B.nil))))),?_⟩
 cases th with
 | step c b ps=>
   obtain⟨u,q,xs,rfl,hu,hq,hps⟩:=hv;walk_at "W";refine⟨rfl,?_⟩;walk_at "W";refine iteY rfl ?_;walk_at "W";refine⟨p,dx,_,rfl,hp,rfl,?_⟩;walk_at "W";exact wStepA X hq hps hf hl k
 | put a b c=>
   obtain⟨u,rfl,hu⟩:=id hv;walk_at "W";refine⟨rfl,?_⟩;walk_at "W";refine iteNo (str_ne (by decide +kernel)) ?_
   walk_at "W";refine⟨p,dx,_,rfl,hp,rfl,?_⟩;walk_at "W";exact wDeedA X hv rfl hl k
 | look a b=>
   obtain⟨u,rfl,hu⟩:=id hv;walk_at "W";refine⟨rfl,?_⟩;walk_at "W";refine iteNo (str_ne (by decide +kernel)) ?_
   walk_at "W";refine⟨p,dx,_,rfl,hp,rfl,?_⟩;walk_at "W";exact wDeedA X hv rfl hl k
 | cut a b=>
   obtain⟨u,rfl,hu⟩:=id hv;walk_at "W";refine⟨rfl,?_⟩;walk_at "W";refine iteNo (str_ne (by decide +kernel)) ?_
   walk_at "W";refine⟨p,dx,_,rfl,hp,rfl,?_⟩;walk_at "W";exact wDeedA X hv rfl hl k
theorem q2_(d:Dfn K mg "first_wrong" z5_ ["story"])(g:Gs K mg C)(q28_:Mkr P w K mg base C "Listener" 1 ["self"] (spLInit C))(q29_:Mt P w K mg base C "agrees" 5 ["self","thing"] (spAgrees C)):Fn P w K mg base "first_wrong" 6 ["story"] spFW:=by
 refine d.fn z27_ (fun vs H Q E h=>?_) (fun f cdv A outer s H vs Q E hr h=>?_)
 · obtain⟨st,xs,ths,rfl,_⟩:=h
   rfl
 obtain⟨st,xs,ths,rfl,hs,hths,hlen,hfit,k⟩:=h;have hxl:=paired_len hths;refine⟨_,(B.scons (B.set 1 z27_.nd (SW.B.make0 q28_ hr.up))
  (B.scons (B.fors (SW.B.ienum g.b_enumerate (B.cons (B.v 0) B.nil)) (B.gtup (B.gcons (B.gname (i:=2) z27_.nd) (B.gcons (B.gname (i:=3) z27_.nd) B.gnil))) (B.sone (B.ifs (B.tnot (B.tval (B.meth (B.v 1) g.cl_Listener q29_ hr.up (B.cons (B.v 3) B.nil)))) (B.sone (B.ret (B.v 2))) B.snil)))
  (B.sone (B.ret B.non)))),?_⟩
 walk_at "W";intro x dx hx hdx hne;have s0:Same H (upd (upd H dx (.own x)) x (.ins C dx [])):=(Same.new hdx).trans (Same.new (by rw[upd_ne hne.symm];exact hx))
 refine⟨x,dx,rfl,upd_same,fun H1 wa oa X1 hwa hoa k1=>⟨rfl,?_⟩⟩;have s1:Same H H1:=fun b o e=>k1 b o (ne_of_none e hx) (s0 b o e);walk_at "W";refine⟨st,rfl,⟨_,SqL.of (s1 _ _ hs)⟩,?_⟩;refine for_enum (xs:=xs) (fun i σ H'=>∃(L:LS) (oa:Addr) (v2 v3:Option V),σ=[some (.ref st),some (.ref x),v2,v3]/\Same H H'/\LsX C H' x L wa oa/\H oa=none/\L.w.length<=i/\fw L0 ths=(fw L (ths.drop i)).map (· + i))
  ⟨L0,oa,_,_,rfl,s1,X1,s0.free hoa,Nat.le_refl _,?_⟩ (fun i σ H' ⟨L,oa,_,_,_,s',_⟩=>SqL.of (s' _ _ hs)) ?_ ?_
 · show fw L0 ths=(fw L0 ths).map (· + 0)
   cases fw L0 ths <;> rfl
 · rintro i v σ H' T hx' hT ⟨L,oa,v2,v3,rfl,s',X',hoa,hwl,hfw⟩
   obtain⟨th,hth,hv⟩:=paired_get hths hx';have hi:i < xs.length:=(List.getElem?_eq_some_iff.mp hx').1;have sT:Same H (upd H' T (.tup [.int i,v])):=s'.trans (Same.new hT);have XT:=X'.same (Same.new (o:=.tup [.int i,v]) hT);obtain⟨dx',hp'⟩:=XT.ob;have hd:ths.drop i=th::ths.drop (i+1):=by
    have hi':i < ths.length:=by omega
    rw[List.drop_eq_getElem_cons hi'];rw[List.getElem?_eq_getElem hi']at hth;rw[Option.some.inj hth]
   have hu:fw L (th::ths.drop (i+1))=if agr L th=true then(fw (nextL L th) (ths.drop (i+1))).map (· + 1)else some 0:=rfl;rw[hd,hu]at hfw;clear hu;refine⟨T,_,rfl,SqT.of upd_same,rfl,_,_,rfl,?_⟩;walk_at "W";refine⟨_,_,rfl,?_⟩;walk_at "W";refine⟨rfl,?_⟩;walk_at "W";refine⟨x,dx',_,rfl,hp',rfl,?_⟩;walk_at "W";refine wAgrees XT (hv.keep (SW.Same.tk sT)) (hfit th (List.mem_of_getElem? hth)) (by omega) fun H2 oa2 X2 g2 f2=>?_
   have s2:Same H H2:=fun b o e=>f2 b o (fun z=>by
    rcases z with z | z | z
    · rw[z,hx]at e;cases e
    · rw[z,s0.free hwa]at e;cases e
    rw[z,hoa]at e;cases e) (sT _ _ e)
   have hoa2:H oa2=none:=by
    rcases g2 with g2 | g2
    · rw[g2];exact hoa
    exact sT.free g2
   walk_at "W";cases ha:agr L th with
   | true=>
     rw[ha,if_pos rfl]at hfw;refine iteF ?_;refine⟨_,oa2,_,_,rfl,s2,X2,hoa2,Nat.le_trans (next_len L th) (by omega),?_⟩
     rw[hfw];cases fw (nextL L th) (ths.drop (i+1))with
     | none=>rfl
     | some n=>show some (n+1+i)=some (n+(i+1));congr 1;omega
   | false=>
     rw[ha,if_neg Bool.false_ne_true]at hfw;refine iteT ?_;walk_at "W";have k':=k H2 s2;rw[hfw]at k';have e:oN (Option.map (· + i) (some 0))=.int (i:Int):=by show V.int ((0+i:Nat):Int)=_;rw[Nat.zero_add]
     rw[e]at k';exact k'
 rintro σ H' ⟨L,oa,v2,v3,rfl,s',X',hoa,hwl,hfw⟩;walk_at "W";rw[hxl,List.drop_length]at hfw;have k':=k H' s';rw[hfw]at k';exact k'
theorem q19_(d:Dfn K mg "_law_mixed" z12_ ["cell","k"]):Fn P w K mg base "_law_mixed" 1 ["cell","k"] spMixedP:=by
 refine d.fn z34_ (fun vs H Q E h=>?_) (fun f cdv A outer s H vs Q E hr h=>?_)
 · obtain⟨c,k,rfl,_⟩:=h
   rfl
 obtain⟨c,k,rfl,q⟩:=h;refine⟨_,(B.scons (B.set 2 z34_.nd (B.op op_mod (B.op op_mul (B.op op_add (B.op op_add (B.op op_mod (B.v 0) B.int) (B.op op_mul B.int (B.v 1))) B.int) B.int) B.int))
  (B.scons (B.set 2 z34_.nd (B.op op_mod (B.op op_mul (B.v 2) (B.v 2)) B.int))
  (B.sone (B.ret (B.op op_fdivL (B.op op_mod (B.op op_mul (B.op op_add (B.v 2) (B.op op_mul B.int (B.op op_add (B.v 1) B.int))) B.int) B.int) B.int))))),?_⟩
 walk_at "W";exact q _
theorem q21_(d:Dfn K mg "_law_pot" z15_ ["cell"])(g:Gs K mg C):Fn P w K mg base "_law_pot" 1 ["cell"] spPotP:=by
 refine d.fn z37_ (fun vs H Q E h=>?_) (fun f cdv A outer s H vs Q E hr h=>?_)
 · obtain⟨c,rfl,_⟩:=h
   rfl
 obtain⟨c,rfl,q⟩:=h;refine⟨_,(B.sone (B.ret (B.lst (B.cons (B.op op_mul (B.op op_mod (B.v 0) (B.op op_mulB (B.op op_mulB (B.op op_pow B.int B.int) (B.op op_pow B.int B.int)) (B.op op_pow B.int B.int))) (B.cT call_int1 g.b_int SW.b_int (B.cons (B.cmp op_ge (B.v 0) (B.op op_pow B.int B.int)) B.nil))) (B.cons (B.v 0) (B.cons B.int B.nil)))))),?_⟩;walk_at "W";refine⟨_,_,rfl,rfl,mul_lit,?_⟩;walk_at "W";refine⟨_,_,rfl,rfl,mul_lit2,?_⟩;refine wMod (by decide +kernel) ?_
 walk_at "W";exact⟨by show(3:Nat)<=sizeLine;decide,fun p hp=>q p _ hp (Same.new hp) ⟨_,_,_,upd_same⟩⟩
theorem q24_(d:Dfn K mg "_law_take" z18_ ["pot","many"])(q9_:Fn P w K mg base "_law_mixed" 1 ["cell","k"] spMixedP):Fn P w K mg base "_law_take" 2 ["pot","many"] spTakeP:=by
 refine d.fn z40_ (fun vs H Q E h=>?_) (fun f cdv A outer s H vs Q E hr h=>?_)
 · obtain⟨p,m,rfl,_⟩:=h
   rfl
 obtain⟨p,m,rfl,hm0,hm1,⟨a,b,c,hp⟩,k⟩:=h;refine⟨_,(B.scons (B.asg (B.op op_add (B.ix ix_list (B.v 0) B.int) B.int) (B.gsub (B.v 0) B.int set_list))
  (B.scons (B.ifs (B.tcmp op_gt (B.ix ix_list (B.v 0) B.int) B.int) (B.scons (B.set 2 z40_.nd (B.op op_mod (B.ix ix_list (B.v 0) B.int) (B.v 1)))
  (B.scons (B.asg (B.op op_fdivL (B.ix ix_list (B.v 0) B.int) (B.v 1)) (B.gsub (B.v 0) B.int set_list))
  (B.sone (B.ret (B.v 2))))) B.snil)
  (B.sone (B.ret (B.op op_mod (B.fn q9_ hr.up (B.cons (B.ix ix_list (B.v 0) B.int) (B.cons (B.ix ix_list (B.v 0) B.int) B.nil))) (B.v 1)))))),?_⟩
 walk_at "W";refine ite2 (fun _=>?_) (fun _=>?_)
 · walk_at "W"
   refine k _ _ (Int.emod_nonneg _ (by omega)) (Int.emod_lt_of_pos _ hm0) ⟨_,_,_,upd_same⟩ fun b o n e=>?_
   rw[upd_ne n,upd_ne n];exact e
 walk_at "W";refine wMixedP fun r=>?_;walk_at "W";exact k _ _ (Int.emod_nonneg _ (by omega)) (Int.emod_lt_of_pos _ hm0) ⟨_,_,_,upd_same⟩ KeepBut.at
theorem q27_(d:Dfn K mg "_law_worth" z20_ ["pot"])(q14_:Fn P w K mg base "_law_take" 2 ["pot","many"] spTakeP):Fn P w K mg base "_law_worth" 3 ["pot"] spWorthP:=by
 refine d.fn z42_ (fun vs H Q E h=>?_) (fun f cdv A outer s H vs Q E hr h=>?_)
 · obtain⟨p,rfl,_⟩:=h
   rfl
 obtain⟨p,rfl,hp,k⟩:=h;refine⟨_,(B.sone (B.ret (B.ix ix_list (B.lst (B.cons (B.op op_sub (B.fn q14_ hr.up (B.cons (B.v 0) (B.cons B.int B.nil))) B.int) (B.cons (B.op op_sub (B.op op_pow B.int B.int) (B.fn q14_ hr.up (B.cons (B.v 0) (B.cons (B.op op_add (B.op op_mul B.int (B.op op_pow B.int B.int)) B.int) B.nil)))) (B.cons (B.un un_neg (B.op op_pow B.int B.int)) B.nil)))) (B.fn q14_ hr.up (B.cons (B.v 0) (B.cons B.int B.nil)))))),?_⟩;walk_at "W";refine wTakeP hp (by decide) (by decide) fun r1 H1 a1 b1 R1 K1=>?_
 walk_at "W";refine wTakeP R1 (by decide) (by decide) fun r2 H2 a2 b2 R2 K2=>?_
 walk_at "W";refine⟨by show(3:Nat)<=sizeLine;decide,fun q hq=>?_⟩
 walk_at "W";refine wTakeP (R2.new hq) (by decide) (by decide) fun r5 H5 a5 b5 R5 K5=>?_
 have e5:=K5 q _ (R2.ne0 hq).symm upd_same;obtain⟨v,hv,hm⟩:=atI_in (xs:=[V.int (r1 - 4),V.int (10 ^ (Int.toNat 9) - r2),V.int (-(10 ^ (Int.toNat 9)))]) a5 b5;refine wIxL e5 hv ?_;obtain⟨z,rfl⟩:∃ z,v=V.int z:=by
  simp only[List.mem_cons,List.not_mem_nil,or_false]at hm;rcases hm with rfl | rfl | rfl <;> exact⟨_,rfl⟩
 exact k z H5 R5 ((K1.trans K2).trans ((KeepBut.new hq).trans K5))
theorem cut_le{xs:List V}{i:Nat}(h:i<=xs.length):cutV xs none (some (i:Int))=xs.take i:=by
 unfold cutV;rw[HT.sIx_none,HT.sIx_nat,List.drop_zero,Nat.sub_zero,Nat.min_eq_left h]
theorem cut_ge{xs:List V}{i:Nat}(h:i<=xs.length):cutV xs (some (i:Int)) none=xs.drop i:=by
 unfold cutV;rw[HT.sIx_none,HT.sIx_nat,Nat.min_eq_left h];exact List.take_of_length_le (by rw[List.length_drop];exact Nat.le_refl _)
theorem oN_scal(a b:Option Nat):scal (oN a) (oN b)=true:=by cases a <;> cases b <;> rfl
structure Bg(A:List Thing)(r:MRow)(n:Nat):Prop where
 fa:fw L0 A=none
 ra:runL L0 A=⟨r,0,[]⟩
 ok:ROk r
 ks:r.map (·.1)=(List.range n).map fun k:Nat=>(k:Int)*(k:Int)
 len:r.length=n
 ft:∀ t∈A,Fit t
theorem fit_app{A:List Thing}{t:Thing}(h:∀ t∈A,Fit t)(ht:Fit t):∀ u∈A++[t],Fit u:=fun u hu=>by
 rcases List.mem_append.mp hu with z | z
 · exact h u z
 cases List.mem_singleton.mp z;exact ht
theorem Bg.nil:Bg [] [] 0:=⟨rfl,rfl,List.nodup_nil,rfl,rfl,fun _ h=>(List.not_mem_nil h).elim⟩
theorem Bg.new{A:List Thing}{r:MRow}{n:Nat}(h:Bg A r n):rLook r ((n:Int)*(n:Int))=none:=(rLook_none_iff _).mpr fun z=>by
 rw[h.ks]at z;obtain⟨k,hk,e⟩:=List.mem_map.mp z;have hk:=List.mem_range.mp hk;have e:((k*k:Nat):Int)=((n*n:Nat):Int):=by rw[Int.natCast_mul,Int.natCast_mul];exact e
 have e:=Int.ofNat.inj e;have:=Nat.mul_lt_mul_of_lt_of_lt hk hk;omega
theorem Bg.put{A:List Thing}{r:MRow}{n:Nat}(h:Bg A r n)(y:Int):Bg (A++[.put ((n:Int)*(n:Int)) y none]) (rPut r ((n:Int)*(n:Int)) y) (n+1):=by
 have e:=h.new;refine⟨?_,?_,rPut_ok h.ok,?_,?_,fit_app h.ft trivial⟩
 · rw[fw_none_append _ _ _ h.fa,h.ra,fw_cons_t (by show decide (none=rLook r _)=true;rw[e];rfl)]
   rfl
 · rw[runL_append,h.ra]
   rfl
 · rw[rPut_new e,List.map_append,h.ks,List.range_succ,List.map_append]
   rfl
 rw[rPut_new e,List.length_append,h.len]
 rfl
theorem Bg.look{A:List Thing}{r:MRow}{n:Nat}(h:Bg A r n)(k:Int):Bg (A++[.look k (rLook r k)]) r n:=by
 refine⟨?_,?_,h.ok,h.ks,h.len,fit_app h.ft trivial⟩
 · rw[fw_none_append _ _ _ h.fa,h.ra,fw_cons_t (by show decide (rLook r k=rLook r k)=true;exact decide_eq_true rfl)]
   rfl
 rw[runL_append,h.ra]
 rfl
structure Sp3(p s d:Addr)(xs:List V)(A:List Thing)(r:MRow)(H:Hp):Prop where
 P:Pot H p
 n1:s≠p
 n2:d≠p
 hs:H s=some (.lst xs)
 t:ThVs H xs A
 hd:H d=some (.dK (kvs r))
theorem Sp3.ne{p s d:Addr}{xs:List V}{A:List Thing}{r:MRow}{H:Hp}(h:Sp3 p s d xs A r H):s≠d:=ne_of h.hs h.hd (by intro z;cases z)
theorem Sp3.pot{p s d:Addr}{xs:List V}{A:List Thing}{r:MRow}{H H':Hp}(h:Sp3 p s d xs A r H)(k:KeepBut p H H')(P:Pot H' p):Sp3 p s d xs A r H':=
 ⟨P,h.n1,h.n2,k _ _ h.n1 h.hs,h.t.keep (h.P.tk k),k _ _ h.n2 h.hd⟩
theorem Sp3.same{p s d:Addr}{xs:List V}{A:List Thing}{r:MRow}{H H':Hp}(h:Sp3 p s d xs A r H)(k:Same H H'):Sp3 p s d xs A r H':=
 ⟨h.P.same k,h.n1,h.n2,k _ _ h.hs,h.t.keep (Same.tk k),k _ _ h.hd⟩
theorem Sp3.app{p s d:Addr}{xs:List V}{A:List Thing}{r:MRow}{H:Hp}{v:V}{th:Thing}(h:Sp3 p s d xs A r H)(hv:ThV H v th):Sp3 p s d (xs++[v]) (A++[th]) r (upd H s (.lst (xs++[v]))):=by
 have tk:TK H (upd H s (.lst (xs++[v]))):=fun a xs e=>by rw[upd_ne (ne_of e h.hs (by intro z;cases z))];exact e
 obtain⟨a,b,c,e⟩:=h.P;exact⟨⟨a,b,c,by rw[upd_ne h.n1.symm];exact e⟩,h.n1,h.n2,upd_same,paired_append (.cons (hv.keep tk) .nil) (h.t.keep tk),by rw[upd_ne h.ne.symm];exact h.hd⟩
theorem Sp3.put{p s d:Addr}{xs:List V}{A:List Thing}{r r':MRow}{H:Hp}(h:Sp3 p s d xs A r H):Sp3 p s d xs A r' (upd H d (.dK (kvs r'))):=by
 have tk:TK H (upd H d (.dK (kvs r'))):=fun a xs e=>by rw[upd_ne (ne_of e h.hd (by intro z;cases z))];exact e
 obtain⟨a,b,c,e⟩:=h.P;exact⟨⟨a,b,c,by rw[upd_ne h.n2.symm];exact e⟩,h.n1,h.n2,by rw[upd_ne h.ne];exact h.hs,h.t.keep tk,upd_same⟩
theorem KeepBut.over{p q:Addr}{o:HO}{H H':Hp}(k:KeepBut p H H')(h:H q=none):KeepBut p H (upd H' q o):=fun b o n e=>by rw[upd_ne (ne_of_none e h)];exact k b o n e
theorem none_of{q a:Addr}{o:HO}{H:Hp}(h:upd H a o q=none):H q=none:=by
 by_cases z:q=a
 · subst z;rw[upd_same]at h;cases h
 rwa [upd_ne z]at h
def spBegun32:Sp:=fun vs H Q _=>∃ p:Addr,vs=[.ref p]/\Pot H p /\
 ∀ t s d xs A r n H',Sp3 p s d xs A r H'->Bg A r n->2<=n->n<=9->A.length<=13->H' t=some (.tup [.ref s,.ref d])->KeepBut p H H'->Q (.ref t) H'
theorem wBegun32{p:Addr}{H:Hp}{Q:VK}{E:XK}(hp:Pot H p)(k:∀ t s d xs A r n H',Sp3 p s d xs A r H'->Bg A r n->2<=n->n<=9->A.length<=13->H' t=some (.tup [.ref s,.ref d])->KeepBut p H H'->Q (.ref t) H'):spBegun32 ([.ref p]++[]) H Q E:=⟨p,rfl,hp,k⟩
theorem q0_(d:Dfn K mg "_law_begun" z9_ ["pot"])(g:Gs K mg C)(q14_:Fn P w K mg base "_law_take" 2 ["pot","many"] spTakeP)(q16_:Fn P w K mg base "_law_worth" 3 ["pot"] spWorthP):Fn P w K mg base "_law_begun" 4 ["pot"] spBegun32:=by
 refine d.fn z31_ (fun vs H Q E h=>?_) (fun f cdv A outer st H vs Q E hr h=>?_)
 · obtain⟨p,rfl,_⟩:=h
   rfl
 obtain⟨p,rfl,hp,k⟩:=h;have lim:sizeLine=16777216:=sizeLine_eq;refine⟨_,(B.scons (B.set 1 z31_.nd B.dnew)
  (B.scons (B.set 2 z31_.nd (B.lst B.nil))
  (B.scons (B.fors (B.irange g.b_range (B.cons (B.op op_add B.int (B.fn q14_ hr.up (B.cons (B.v 0) (B.cons B.int B.nil)))) B.nil)) (B.gname (i:=3) z31_.nd) (B.scons (B.dput (hu_of hr) (B.v 1) (B.op op_mul (B.v 3) (B.v 3)) (B.fn q16_ hr.up (B.cons (B.v 0) B.nil)))
  (B.sone (B.expr (B.m PySem.F.plainAttrs_list PySem.F.slot_list_append PySem.F.type_list_append mt_append (B.v 2) (B.cons (B.tup (B.cons B.str (B.cons (B.op op_mul (B.v 3) (B.v 3)) (B.cons (SW.B.dget (hu_of hr) (B.v 1) (B.op op_mul (B.v 3) (B.v 3))) (B.cons B.non B.nil))))) B.nil))))))
  (B.scons (B.fors (B.irange g.b_range (B.cons (B.fn q14_ hr.up (B.cons (B.v 0) (B.cons B.int B.nil))) B.nil)) (B.gname (i:=3) z31_.nd) (B.sone (B.expr (B.m PySem.F.plainAttrs_list PySem.F.slot_list_append PySem.F.type_list_append mt_append (B.v 2) (B.cons (B.tup (B.cons B.str (B.cons (B.v 3) (B.cons (B.dget1 (hu_of hr) (B.v 1) (B.v 3) (m:=B.m1)) B.nil)))) B.nil)))))
  (B.sone (B.ret (B.tup (B.cons (B.v 2) (B.cons (B.v 1) B.nil))))))))),?_⟩
 walk_at "W";intro pd hpd;have s1:=Same.new (o:=.dK []) hpd;walk_at "W";refine⟨by show(0:Nat)<=sizeLine;decide,fun s hs=>?_⟩
 have s2:=Same.new (o:=.lst []) hs;have hs0:=none_of hs;have J0:Sp3 p s pd [] [] [] (upd (upd H pd (.dK [])) s (.lst [])):=⟨hp.same (s1.trans s2),((hp.same s1).ne0 hs).symm,(hp.ne0 hpd).symm,upd_same,.nil,s2 _ _ upd_same⟩;have K0:KeepBut p H (upd (upd H pd (.dK [])) s (.lst [])):=SW.Same.but (s1.trans s2);generalize upd (upd H pd (.dK [])) s (.lst [])=H0 at *;walk_at "W";refine wTakeP J0.P (by decide) (by decide) fun m H1 m0 m1 P1 K1=>?_
 have J1:=J0.pot K1 P1;walk_at "W";refine⟨2+m,rfl,by omega,by omega,?_⟩
 refine SW.forRangeC (fun i σ H'=>∃(v3:Option V) (xs:List V) (A:List Thing) (r:MRow),σ=[some (.ref p),some (.ref pd),some (.ref s),v3]/\Sp3 p s pd xs A r H'/\Bg A r i/\A.length=i/\KeepBut p H H') ⟨_,_,_,_,rfl,J1,Bg.nil,rfl,K0.trans K1⟩ ?_ ?_
 · rintro i σ H2 hi ⟨v3,xs,A,r,rfl,J2,B2,l2,K2⟩
   walk_at "W";refine wWorthP J2.P fun y H3 P3 K3=>?_;have J3:=J2.pot K3 P3;have hlen:(kvs r).length < sizeLine:=by rw[kvs_len,B2.len];omega
   walk_at "W";refine⟨pd,_,rfl,DPut.k (k:=Sum.inl ((0+(i:Int))*(0+(i:Int)))) J3.hd hlen,?_⟩;rw[putK_kvs,Int.zero_add];have J4:=J3.put (r':=rPut r ((i:Int)*(i:Int)) y);have B4:=B2.put y;have K4:=KeepBut.over (o:=.dK (kvs (rPut r ((i:Int)*(i:Int)) y))) (K2.trans K3) hpd;generalize upd H3 pd (.dK (kvs (rPut r ((i:Int)*(i:Int)) y)))=H4 at *;walk_at "W";refine wBM ?_;walk_at "W";refine⟨.inl ⟨rfl,_,SqL.of J4.hs⟩,?_⟩;walk_at "W";have hg:DGet H4 pd (V.int ((i:Int)*(i:Int))) (some (V.int y)):=by
    have z:=DGet.k (k:=Sum.inl ((i:Int)*(i:Int))) J4.hd;rw[valV_kvs,rLook_put,if_pos rfl]at z;exact z
   refine⟨pd,_,rfl,hg,?_⟩;walk_at "W";refine⟨by show(4:Nat)<=sizeLine;decide,fun u hu=>?_⟩
   have s5:=Same.new (o:=.tup [.str "put",.int ((i:Int)*(i:Int)),.int y,.non]) hu;have J5:=J4.same s5;walk_at "W";refine⟨s,_,_,rfl,rfl,J5.hs,by have:=paired_len J5.t;omega,?_⟩
   have J6:=J5.app (v:=.ref u) (th:=.put ((i:Int)*(i:Int)) y none) ⟨u,rfl,upd_same⟩;walk_at "W";exact⟨_,_,_,_,rfl,J6,B4,by rw[List.length_append,l2];rfl,KeepBut.over (K4.trans (SW.Same.but s5)) hs0⟩
 rintro σ H2 ⟨v3,xs,A,r,rfl,J2,B2,l2,K2⟩;walk_at "W";refine wTakeP J2.P (by decide) (by decide) fun m' H3 n0 n1 P3 K3=>?_
 have J3:=J2.pot K3 P3;walk_at "W";refine⟨m',rfl,by omega,by omega,?_⟩
 refine SW.forRangeC (fun i σ H'=>∃(v3:Option V) (xs:List V) (A:List Thing),σ=[some (.ref p),some (.ref pd),some (.ref s),v3]/\Sp3 p s pd xs A r H'/\Bg A r (2+m).toNat/\A.length=(2+m).toNat+i/\KeepBut p H H') ⟨_,_,_,rfl,J3,B2,l2,K2.trans K3⟩ ?_ ?_
 · rintro i σ H4 hi ⟨v3,xs,A,rfl,J4,B4,l4,K4⟩
   walk_at "W";refine wBM ?_;walk_at "W";refine⟨.inl ⟨rfl,_,SqL.of J4.hs⟩,?_⟩;walk_at "W";refine⟨pd,rfl,.inl ⟨_,.inl J4.hd⟩,?_⟩;walk_at "W";refine⟨_,DGet.k (k:=Sum.inl (0+(i:Int))) J4.hd,?_⟩;rw[oV_getD];walk_at "W";refine⟨by show(3:Nat)<=sizeLine;decide,fun u hu=>?_⟩
   have s5:=Same.new (o:=.tup [.str "look",.int (0+(i:Int)),oV (rLook r (0+(i:Int)))]) hu;have J5:=J4.same s5;walk_at "W";refine⟨s,_,_,rfl,rfl,J5.hs,by have:=paired_len J5.t;omega,?_⟩
   have J6:=J5.app (v:=.ref u) (th:=.look (0+(i:Int)) (rLook r (0+(i:Int)))) ⟨u,rfl,upd_same⟩;walk_at "W";exact⟨_,_,_,rfl,J6,B4.look _,by rw[List.length_append,l4];rfl,KeepBut.over (K4.trans (SW.Same.but s5)) hs0⟩
 rintro σ H4 ⟨v3,xs,A,rfl,J4,B4,l4,K4⟩;walk_at "W";refine⟨by show(2:Nat)<=sizeLine;decide,fun t ht=>?_⟩
 have s5:=Same.new (o:=.tup [.ref s,.ref pd]) ht;exact k t s pd xs A r _ _ (J4.same s5) B4 (by omega) (by omega) (by omega) upd_same (K4.trans (SW.Same.but s5))
structure Pts(ns:List Int)(l:Int):Prop where
 h0:ns[0]?=some 0
 la:ns.getLast?=some l
 pw:ns.Pairwise (· < ·)
 le:∀ x∈ns,0<=x/\x<=l
theorem Pts.nil:Pts [0] 0:=⟨rfl,rfl,List.pairwise_singleton _ _,fun x h=>by cases List.mem_singleton.mp h;exact⟨Int.le_refl _,Int.le_refl _⟩⟩
theorem Pts.app{ns:List Int}{l x:Int}(h:Pts ns l)(hx:l < x):Pts (ns++[x]) x:=by
 have hl:0 < ns.length:=by have:=List.getElem?_eq_some_iff.mp h.h0;exact this.1
 refine⟨by rw[List.getElem?_append_left hl];exact h.h0,List.getLast?_concat,List.pairwise_append.mpr ⟨h.pw,List.pairwise_singleton _ _,fun a ha b hb=>?_⟩,fun a ha=>?_⟩
 · cases List.mem_singleton.mp hb
   have:=h.le a ha;omega
 have l0:=h.le l (List.mem_of_getLast? h.la);rcases List.mem_append.mp ha with z | z
 · have:=h.le a z
   omega
 cases List.mem_singleton.mp z;omega
def spPoints:Sp:=fun vs H Q _=>∃(p:Addr) (m:Int),vs=[.ref p,.int m]/\2<=m/\m<=6/\Pot H p /\ ∀ q ns l H',H q=none->H' q=some (.lst (ns.map V.int))->(ns.length:Int)=m->Pts ns l->l<=65535->Pot H' p->KeepBut p H H'->Q (.ref q) H'
theorem wPoints{p:Addr}{m:Int}{H:Hp}{Q:VK}{E:XK}(h1:2<=m)(h2:m<=6)(hp:Pot H p)(k:∀ q ns l H',H q=none->H' q=some (.lst (ns.map V.int))->(ns.length:Int)=m->Pts ns l->l<=65535->Pot H' p->KeepBut p H H'->Q (.ref q) H'):spPoints ([.ref p,.int m]++[]) H Q E:=⟨p,m,rfl,h1,h2,hp,k⟩
def spPutIn:Sp:=fun vs H Q _=>∃(s:Addr) (xs:List V) (i:Nat) (v:V),vs=[.ref s,.int i,v]/\H s=some (.lst xs)/\i < xs.length/\xs.length<=1000 /\ ∀ q H',H q=none->H' q=some (.lst (xs.set i v))->Same H H'->Q (.ref q) H'
theorem wPutIn{s:Addr}{xs:List V}{i:Nat}{v:V}{H:Hp}{Q:VK}{E:XK}(h1:H s=some (.lst xs))(h2:i < xs.length)(h3:xs.length<=1000)(k:∀ q H',H q=none->H' q=some (.lst (xs.set i v))->Same H H'->Q (.ref q) H'):spPutIn ([.ref s,.int i,v]++[]) H Q E:=⟨s,xs,i,v,rfl,h1,h2,h3,k⟩
theorem q20_(d:Dfn K mg "_law_points" z14_ ["pot","many"])(g:Gs K mg C)(q14_:Fn P w K mg base "_law_take" 2 ["pot","many"] spTakeP):Fn P w K mg base "_law_points" 3 ["pot","many"] spPoints:=by
 refine d.fn z36_ (fun vs H Q E h=>?_) (fun f cdv A outer st H vs Q E hr h=>?_)
 · obtain⟨p,m,rfl,_⟩:=h
   rfl
 obtain⟨p,m,rfl,h1,h2,hp,k⟩:=h;have lim:sizeLine=16777216:=sizeLine_eq;have hc:10922<=65535 / m/\65535 / m*m<=65535/\65535 / m<=32767:=by
  obtain rfl | rfl | rfl | rfl | rfl:m=2∨m=3∨m=4∨m=5∨m=6:=by omega
  all_goals decide
 obtain⟨c1,c2,c3⟩:=hc;refine⟨_,(B.scons (B.set 2 z36_.nd (B.lst (B.cons B.int B.nil)))
  (B.scons (B.fors (B.irange g.b_range (B.cons (B.op op_sub (B.v 1) B.int) B.nil)) (B.gname (i:=3) z36_.nd) (B.sone (B.expr (B.m PySem.F.plainAttrs_list PySem.F.slot_list_append PySem.F.type_list_append mt_append (B.v 2) (B.cons (B.op op_add (B.op op_add (B.ix ix_list (B.v 2) (B.un un_neg B.int)) B.int) (B.fn q14_ hr.up (B.cons (B.v 0) (B.cons (B.op op_sub (B.op op_fdivL B.int (B.v 1)) B.int) B.nil)))) B.nil)))))
  (B.sone (B.ret (B.v 2))))),?_⟩
 walk_at "W";refine⟨by show(1:Nat)<=sizeLine;decide,fun q hq=>?_⟩
 have s1:=Same.new (o:=.lst [.int 0]) hq;walk_at "W";refine⟨m - 1,rfl,by omega,by omega,?_⟩
 refine SW.forRangeC (fun i σ H'=>∃(v3:Option V) (ns:List Int) (l:Int),σ=[some (.ref p),some (.int m),some (.ref q),v3]/\Pot H' p/\H' q=some (.lst (ns.map V.int))/\ns.length=i+1/\Pts ns l/\l<=(i:Int)*(65535 / m)/\KeepBut p H H') ⟨_,[0],0,rfl,hp.same s1,upd_same,rfl,Pts.nil,by omega,SW.Same.but s1⟩ ?_ ?_
 · rintro i σ H2 hi ⟨v3,ns,l,rfl,P2,q2,ln,pt,hl,K2⟩
   have nqp:q≠p:=(hp.ne0 hq).symm;walk_at "W";refine wBM ?_;walk_at "W";refine⟨.inl ⟨rfl,_,SqL.of q2⟩,?_⟩;walk_at "W";obtain⟨ns0,rfl⟩:∃ ns0,ns=ns0++[l]:=List.getLast?_eq_some_iff.mp pt.la;rw[List.map_append]at q2;refine wIxL q2 (L2.atI_last (ns0.map V.int) (V.int l)) ?_;rw[← List.map_append]at q2;walk_at "W";refine wTakeP P2 (by omega) (by omega) fun y H3 y0 y1 P3 K3=>?_
   have q3:=K3 _ _ nqp q2;walk_at "W";refine⟨q,_,_,rfl,rfl,q3,by rw[List.length_map];omega,?_⟩
   walk_at "W";refine⟨_,ns0++[l]++[l+1+y],l+1+y,rfl,?_,by rw[upd_same,List.map_append (l₁:=ns0++[l])];rfl,by rw[List.length_append,ln];rfl,pt.app (by omega),?_,KeepBut.over (K2.trans K3) hq⟩
   · obtain⟨a,b,c,e⟩:=P3
     exact⟨a,b,c,by rw[upd_ne nqp.symm];exact e⟩
   have:((i+1:Nat):Int)*(65535 / m)=(i:Int)*(65535 / m)+65535 / m:=by rw[Int.natCast_add,Int.add_mul,Int.natCast_one,Int.one_mul]
   omega
 rintro σ H2 ⟨v3,ns,l,rfl,P2,q2,ln,pt,hl,K2⟩;walk_at "W";have e:((m - 1).toNat:Int)=m - 1:=Int.toNat_of_nonneg (by omega)
 have hmc:(m - 1)*(65535 / m)<=65535:=by
  have:(m - 1)*(65535 / m)=65535 / m*m - 65535 / m:=by rw[Int.sub_mul,Int.one_mul,Int.mul_comm]
  omega
 rw[e]at hl;exact k q ns l H2 hq q2 (by omega) pt (by omega) P2 K2
theorem q22_(d:Dfn K mg "_law_put_in" z16_ ["story","at","row"])(g:Gs K mg C):Fn P w K mg base "_law_put_in" 1 ["story","at","row"] spPutIn:=by
 refine d.fn z38_ (fun vs H Q E h=>?_) (fun f cdv A outer st H vs Q E hr h=>?_)
 · obtain⟨s,xs,i,v,rfl,_⟩:=h
   rfl
 obtain⟨s,xs,i,v,rfl,hs,hi,hl,k⟩:=h;have lim:sizeLine=16777216:=sizeLine_eq;refine⟨_,(B.sone (B.ret (B.op op_cat (B.op op_cat (B.slice sl_list (B.v 0) B.nopart (B.part (B.v 1))) (B.lst (B.cons (B.v 2) B.nil))) (B.slice sl_list (B.v 0) (B.part (B.op op_add (B.v 1) B.int)) B.nopart)))),?_⟩;walk_at "W";refine⟨(i:Int),rfl,s,xs,rfl,SqL.of hs,fun x1 h1=>?_⟩;rw[cut_le (Nat.le_of_lt hi)];have s1:=Same.new (o:=.lst (xs.take i)) h1;walk_at "W";refine⟨by show(1:Nat)<=sizeLine;decide,fun x2 h2=>?_⟩
 have s2:=Same.new (o:=.lst [v]) h2;walk_at "W";refine⟨x1,x2,_,_,rfl,rfl,s2 _ _ upd_same,upd_same,by rw[List.length_take];show _+1<=_;omega,fun x3 h3=>?_⟩
 have s3:=Same.new (o:=.lst (xs.take i++[v])) h3;walk_at "W";refine⟨(i:Int)+1,rfl,?_⟩;walk_at "W";have s13:=(s1.trans s2).trans s3;refine⟨s,xs,rfl,SqL.of (s13 _ _ hs),fun x4 h4=>?_⟩;rw[show((i:Int)+1)=((i+1:Nat):Int)from rfl,cut_ge hi];have s4:=Same.new (o:=.lst (xs.drop (i+1))) h4;walk_at "W";refine⟨x3,x4,_,_,rfl,rfl,s4 _ _ upd_same,upd_same,by rw[List.length_append,List.length_take,List.length_drop];show _+1+_<=_;omega,fun x5 h5=>?_⟩
 refine k x5 _ ?_ (by rw[set_take hi];exact upd_same) ((s13.trans s4).trans (Same.new h5))
 exact none_of (none_of (none_of (none_of h5)))
theorem spots_perm{α:Type}(L:List (α × Int)):∀ n:Nat,((List.range n).flatMap fun k:Nat=>(L.filter fun x=>decide (x.2=(k:Int))).map (·.1)).Perm ((L.filter fun x=>decide (0<=x.2/\x.2 < (n:Int))).map (·.1))
 | 0=>by
   rw[List.filter_eq_nil_iff.mpr fun x _ z=>by have:=of_decide_eq_true z;omega]
   exact List.Perm.refl _
 | n+1=>by
   rw[List.range_succ,List.flatMap_append,List.flatMap_singleton];refine((spots_perm L n).append_right _).trans ?_;rw[← List.map_append];refine List.Perm.map _ ?_;have h:=List.filter_append_perm (fun x:α × Int=>decide (0<=x.2/\x.2 < (n:Int))) (L.filter fun x=>decide (0<=x.2/\x.2 < ((n+1:Nat):Int)));rw[List.filter_filter,List.filter_filter]at h;have e1:L.filter (fun x=>decide (0<=x.2/\x.2 < (n:Int)) && decide (0<=x.2/\x.2 < ((n+1:Nat):Int)))=L.filter fun x=>decide (0<=x.2/\x.2 < (n:Int)):=List.filter_congr fun x _=>by
    rw[← Bool.decide_and];exact decide_eq_decide.mpr ⟨fun z=>z.1,fun z=>⟨z,by omega⟩⟩
   have e2:L.filter (fun x=>!decide (0<=x.2/\x.2 < (n:Int)) && decide (0<=x.2/\x.2 < ((n+1:Nat):Int)))=L.filter fun x=>decide (x.2=(n:Int)):=List.filter_congr fun x _=>by
    rw[← decide_not,← Bool.decide_and];exact decide_eq_decide.mpr ⟨fun z=>by omega,fun z=>by omega⟩
   rw[e1,e2]at h;exact h
def prAt(kv:MRow)(sp:List Int)(i:Nat)(k:Int):MRow:=(((kv.zip sp).take i).filter fun x=>decide (x.2=k)).map (·.1)
theorem pr_perm{kv:MRow}{sp:List Int}{n:Nat}(hl:sp.length=kv.length)(h:∀ x∈sp,0<=x/\x < (n:Int)):((List.range n).flatMap fun k:Nat=>prAt kv sp kv.length (k:Int)).Perm kv:=by
 have hz:(kv.zip sp).length=kv.length:=by rw[List.length_zip,hl,Nat.min_self]
 have hp:=spots_perm (kv.zip sp) n;rw[List.filter_eq_self.mpr fun x hx=>decide_eq_true (h x.2 (List.of_mem_zip (a:=x.1) (b:=x.2) hx).2),List.map_fst_zip (by omega)]at hp
 have e:(fun k:Nat=>prAt kv sp kv.length (k:Int))=fun k:Nat=>((kv.zip sp).filter fun x=>decide (x.2=(k:Int))).map (·.1):=by
  funext k
  unfold prAt;rw[List.take_of_length_le (by omega)]
 rw[e];exact hp
theorem chn_of:∀(ss:List Seg) (ns:List Int) (c:Int),ss.map (·.c)=c::ns->ss.map (·.b)=ns++[0]->(c::ns).Pairwise (· < ·)->0<=c->(∀ x∈ns,x<=65535)->Chn c ss
 | [],ns,c,h,_,_,_,_=>by cases h
 | [s],ns,c,h1,h2,_,_,_=>by
   have h1:[s.c]=c::ns:=h1;injection h1 with a b;subst b;have h2:[s.b]=[0]:=h2;injection h2 with b;exact⟨a,b⟩
 | s::t::ss,ns,c,h1,h2,hp,h0,hx=>by
   have h1:s.c::(t::ss).map (·.c)=c::ns:=h1;injection h1 with a b;cases ns with
   | nil=>cases b
   | cons n ns=>
     have h2:s.b::(t::ss).map (·.b)=n::(ns++[0]):=h2;injection h2 with e f;obtain⟨p1,p2⟩:=List.pairwise_cons.mp hp;have lt:=p1 n (List.mem_cons_self ..);have le:=hx n (List.mem_cons_self ..);refine⟨a,by omega,by omega,by omega,?_⟩
     rw[e];exact chn_of (t::ss) ns n b f p2 (by omega) fun x hx'=>hx x (List.mem_cons_of_mem _ hx')
theorem walkT_app:∀(ss:List Seg) (k:Nat) (s:Seg),walkT k (ss++[s])=walkT k ss++(.step s.c s.b s.Q::dd (k+ss.length) s.x)
 | [],k,s=>by
   show Thing.step s.c s.b s.Q::(dd k s.x++[])=_;rw[List.append_nil]
   rfl
 | t::ss,k,s=>by
   show Thing.step t.c t.b t.Q::(dd k t.x++walkT (k+1) (ss++[s]))=(Thing.step t.c t.b t.Q::(dd k t.x++walkT (k+1) ss))++_;rw[walkT_app ss (k+1) s,List.cons_append,List.append_assoc,List.length_cons,show k+1+ss.length=k+(ss.length+1)from by omega]
theorem walkT_len:∀(ss:List Seg) (k:Nat),(walkT k ss).length<=4*ss.length
 | [],_=>Nat.le_refl _
 | s::ss,k=>by
   have:=walkT_len ss (k+1);show(dd k s.x++walkT (k+1) ss).length+1<=4*(ss.length+1);rw[List.length_append];have:(dd k s.x).length<=3:=by cases s.x <;> simp[dd]
   omega
structure Sgs(ns:List Int)(kv:MRow)(sp:List Int)(i:Nat)(ss:List Seg):Prop where
 c:ss.map (·.c)=ns.take i
 b:ss.map (·.b)=(ns.drop 1++[0]).take i
 q:ss.map (·.Q)=(List.range i).map fun k:Nat=>prAt kv sp kv.length (k:Int)
theorem Sgs.nil{ns:List Int}{kv:MRow}{sp:List Int}:Sgs ns kv sp 0 []:=⟨by rw[List.take_zero];rfl,by rw[List.take_zero];rfl,rfl⟩
theorem Sgs.app{ns:List Int}{kv:MRow}{sp:List Int}{i:Nat}{ss:List Seg}{c b:Int}{x:Option Int}(h:Sgs ns kv sp i ss)(hc:ns[i]?=some c)(hb:(ns.drop 1++[0])[i]?=some b):Sgs ns kv sp (i+1) (ss++[⟨c,b,prAt kv sp kv.length (i:Int),x⟩]):=by
 refine⟨?_,?_,?_⟩
 · rw[List.map_append,h.c,take_snocF hc];rfl
 · rw[List.map_append,h.b,take_snocF hb];rfl
 rw[List.map_append,h.q,List.range_succ,List.map_append];rfl
theorem Sgs.len{ns:List Int}{kv:MRow}{sp:List Int}{i:Nat}{ss:List Seg}(h:Sgs ns kv sp i ss):ss.length=i:=by
 have:=congrArg List.length h.q
 rwa [List.length_map,List.length_map,List.length_range]at this
theorem Sgs.done{ns:List Int}{kv:MRow}{sp:List Int}{ss:List Seg}{l:Int}(h:Sgs ns kv sp ns.length ss)(hp:Pts ns l)(hl:l<=65535)(h1:sp.length=kv.length)(h2:∀ x∈sp,0<=x/\x < (ns.length:Int)) :
 Chn 0 ss/\(ss.flatMap (·.Q)).Perm kv:=by
 constructor
 · cases ns with
   | nil=>have:=hp.h0;cases this
   | cons n ns=>
     have h0:=hp.h0;have h0:some n=some 0:=h0;injection h0 with h0;subst h0;refine chn_of ss ns 0 (by rw[h.c,List.take_length]) ?_ hp.pw (Int.le_refl _) fun x hx=>Int.le_trans (hp.le x (List.mem_cons_of_mem _ hx)).2 hl
     rw[h.b,List.take_of_length_le]
     · rfl
     rw[List.length_append];exact Nat.le_refl _
 rw[List.flatMap_def,h.q,← List.flatMap_def];exact pr_perm h1 h2
theorem kv_perm{r:MRow}{ks:List Int}(ok:ROk r)(h:ks.Perm (r.map (·.1))):(ks.map fun k=>(k,(rLook r k).getD 0)).Perm r:=by
 refine(h.map _).trans ?_;rw[List.map_map];have:r.map ((fun k=>(k,(rLook r k).getD 0)) ∘ fun p=>p.1)=r.map id:=List.map_congr_left fun p hp=>by
  show(p.1,(rLook r p.1).getD 0)=p;rw[rLook_in ok hp]
  rfl
 rw[this,List.map_id]
def spWalk32:Sp:=fun vs H Q _=>∃(p d q:Addr) (r:MRow) (ns:List Int) (l:Int),vs=[.ref p,.ref d,.ref q]/\Pot H p/\d≠p/\q≠p/\H d=some (.dK (kvs r))/\ROk r/\r.length<=9/\H q=some (.lst (ns.map V.int))/\2<=ns.length/\ns.length<=6/\Pts ns l/\l<=65535 /\
 ∀ s xs ss H',H s=none->H' s=some (.lst xs)->ThVs H' xs (walkT 0 ss)->Chn 0 ss->(ss.flatMap (·.Q)).Perm r->ss.length=ns.length->Pot H' p->KeepBut p H H'->Q (.ref s) H'
theorem wWalk32{p d q:Addr}{r:MRow}{ns:List Int}{l:Int}{H:Hp}{Q:VK}{E:XK}(h1:Pot H p)(h2:d≠p)(h3:q≠p)(h4:H d=some (.dK (kvs r)))(h5:ROk r)(h6:r.length<=9)(h7:H q=some (.lst (ns.map V.int)))(h8:2<=ns.length)(h9:ns.length<=6)(h10:Pts ns l)(h11:l<=65535)
 (k:∀ s xs ss H',H s=none->H' s=some (.lst xs)->ThVs H' xs (walkT 0 ss)->Chn 0 ss->(ss.flatMap (·.Q)).Perm r->ss.length=ns.length->Pot H' p->KeepBut p H H'->Q (.ref s) H'):spWalk32 ([.ref p,.ref d,.ref q]++[]) H Q E:=⟨p,d,q,r,ns,l,rfl,h1,h2,h3,h4,h5,h6,h7,h8,h9,h10,h11,k⟩
theorem KeepBut.back{p s:Addr}{H H':Hp}(k:KeepBut p H H')(P:Pot H' p)(h:H' s=none):H s=none:=by
 cases e:H s with
 | none=>rfl
 | some o=>
   by_cases z:s=p
   · obtain⟨a,b,c,y⟩:=P
     rw[← z,h]at y;cases y
   rw[k s o z e]at h;cases h
theorem pr_succ{kv:MRow}{sp:List Int}{i:Nat}{k x:Int}{p:Int×Int}(h1:kv[i]?=some p)(h2:sp[i]?=some x):prAt kv sp (i+1) k=prAt kv sp i k++if x=k then[p]else[]:=by
 unfold prAt;rw[take_snocF (v:=(p,x)) (List.getElem?_zip_eq_some.mpr ⟨h1,h2⟩),List.filter_append,List.map_append]
 congr 1
 by_cases z:x=k
 · simp[z]
 simp[z]
theorem at0{xs:List Int}{i:Nat}{x:Int}(h:xs[i]?=some x):atI (xs.map V.int) (0+(i:Int))=some (V.int x):=by
 rw[Int.zero_add];exact L2.atI_nat (by rw[List.getElem?_map,h];rfl)
structure W32(H2:Hp)(p s:Addr)(xs:List V)(ns:List Int)(kv:MRow)(sp:List Int)(i:Nat)(ss:List Seg)(H':Hp):Prop where
 P:Pot H' p
 k:KeepBut p H2 H'
 n:H2 s=none
 np:s≠p
 h:H' s=some (.lst xs)
 t:ThVs H' xs (walkT 0 ss)
 g:Sgs ns kv sp i ss
theorem q25_(d:Dfn K mg "_law_walk" z19_ ["pot","plain","points"])(g:Gs K mg C)(q14_:Fn P w K mg base "_law_take" 2 ["pot","many"] spTakeP)(q16_:Fn P w K mg base "_law_worth" 3 ["pot"] spWorthP):Fn P w K mg base "_law_walk" 4 ["pot","plain","points"] spWalk32:=by
 refine d.fn z41_ (fun vs H Q E h=>?_) (fun f cdv A outer st H vs Q E hr h=>?_)
 · obtain⟨p,d,q,r,ns,l,rfl,_⟩:=h
   rfl
 obtain⟨p,d,q,r,ns,l,rfl,hp,ndp,nqp,hd,ok,hl,hq,n2,n6,hpt,hl5,k⟩:=h;have lim:sizeLine=16777216:=sizeLine_eq;refine⟨_,(B.scons (B.set 3 z41_.nd (B.cB SW.call_sortedDG g.b_sorted SW.b_sorted (B.cons (B.v 1) B.nil)))
  (B.scons (B.set 4 z41_.nd (SW.B.comp [0,2] ["key","pot","points"] (SW.CompScope.of rfl rfl (by decide +kernel) (by decide +kernel) rfl ⟨rfl,rfl,trivial⟩ rfl rfl rfl) (by decide +kernel) (B.ilist (B.v 3)) (fun _ _ _ _=>(B.fn q14_ hr.up (B.cons (B.v 1) (B.cons (B.cB (SW.call_lenK K) g.b_len SW.b_len (B.cons (B.v 2) B.nil)) B.nil))))))
  (B.scons (B.set 5 z41_.nd (B.lst B.nil))
  (B.scons (B.fors (B.irange g.b_range (B.cons (B.cB call_len_seq g.b_len SW.b_len (B.cons (B.v 2) B.nil)) B.nil)) (B.gname (i:=6) z41_.nd) (B.scons (B.set 7 z41_.nd (B.cT call_tuple_of g.b_tuple SW.b_tuple (B.cons (SW.B.compIf [1,3,4,6] ["j","plain","keys","spots","k"] (SW.CompScope.of rfl rfl (by decide +kernel) (by decide +kernel) rfl ⟨rfl,rfl,rfl,rfl,trivial⟩ rfl rfl rfl) (by decide +kernel) (B.irange g.b_range (B.cons (B.cB call_len_seq g.b_len SW.b_len (B.cons (B.v 3) B.nil)) B.nil)) (fun _ _ _ _=>(B.tcmp op_eq (B.ix (SW.ix_listK K) (B.v 3) (B.v 0)) (B.v 4))) (fun _ _ _ _=>(B.tup (B.cons (B.ix (SW.ix_listK K) (B.v 2) (B.v 0)) (B.cons (SW.B.dget (hu_of hr) (B.v 1) (B.ix (SW.ix_listK K) (B.v 2) (B.v 0))) B.nil))))) B.nil)))
  (B.scons (B.expr (B.m PySem.F.plainAttrs_list PySem.F.slot_list_append PySem.F.type_list_append mt_append (B.v 5) (B.cons (B.tup (B.cons B.str (B.cons (B.ix ix_list (B.v 2) (B.v 6)) (B.cons (B.ix ix_list (B.op op_cat (B.v 2) (B.lst (B.cons B.int B.nil))) (B.op op_add (B.v 6) B.int)) (B.cons (B.v 7) B.nil))))) B.nil)))
  (B.sone (B.ifs (B.tcmp op_eq (B.fn q14_ hr.up (B.cons (B.v 0) (B.cons B.int B.nil))) B.int) (B.scons (B.set 8 z41_.nd (B.fn q16_ hr.up (B.cons (B.v 0) B.nil)))
  (B.sone (B.set 5 z41_.nd (B.op op_cat (B.v 5) (B.lst (B.cons (B.tup (B.cons B.str (B.cons (B.op op_add B.int (B.v 6)) (B.cons (B.v 8) (B.cons B.non B.nil))))) (B.cons (B.tup (B.cons B.str (B.cons (B.op op_add B.int (B.v 6)) (B.cons (B.v 8) B.nil)))) (B.cons (B.tup (B.cons B.str (B.cons (B.op op_add B.int (B.v 6)) (B.cons (B.v 8) B.nil)))) B.nil)))))))) B.snil)))))
  (B.sone (B.ret (B.v 5))))))),?_⟩
 walk_at "W";refine⟨d,r,rfl,hd,rfl,fun kq ks hkq kp _=>?_⟩;have s1:=Same.new (o:=.lst (ks.map V.int)) hkq;have hk1:upd H kq (.lst (ks.map V.int)) kq=some (.lst (ks.map V.int)):=upd_same;have P1:=hp.same s1;have hq1:=s1 _ _ hq;have hd1:=s1 _ _ hd;have nkp:kq≠p:=(hp.ne0 hkq).symm;have K1:KeepBut p H (upd H kq (.lst (ks.map V.int))):=SW.Same.but s1;have hkl:ks.length<=9:=by have:=kp.length_eq;rw[List.length_map]at this;omega
 generalize upd H kq (.lst (ks.map V.int))=H1 at *;walk_at "W";refine⟨kq,rfl,⟨_,SqL.of hk1⟩,fun D hD=>?_⟩;refine comp_listU (xs:=ks.map V.int) (fun i σ' H'=>∃(v:Option V) (sp:List Int),σ'=[v,some (.ref p),some (.ref q)]/\Pot H' p/\KeepBut p H1 H'/\H' D=some (.lst (sp.map V.int))/\sp.length=i /\ ∀ x∈sp,0<=x/\x < (ns.length:Int)) ⟨none,[],rfl,P1.new hD,SW.Same.but (Same.new hD),upd_same,rfl,fun x h=>(List.not_mem_nil h).elim⟩ (fun i σ' H' _ ⟨v,sp,_,_,K',_⟩=>SqL.of (K' _ _ nkp hk1)) ?_ ?_
 · rintro i x σ' H' hx hi ⟨v,sp,rfl,P',K',hD',hsl,hsp⟩
   have nDp:D≠p:=(P1.ne0 hD).symm;walk_at "W";refine SW.iLen (.inl (SqL.of (K' _ _ nqp hq1))) ?_;walk_at "W";refine wTakeP P' (by rw[List.length_map];omega) (by rw[List.length_map];omega) fun y H3 y0 y1 P3 K3=>?_
   rw[List.length_map]at y1;have hD3:=K3 _ _ nDp hD';refine CN.mk hi hD3 (by rw[List.length_map]at hi ⊢;omega) ⟨_,sp++[y],rfl,?_,KeepBut.over (K'.trans K3) hD,by rw[upd_same,List.map_append];rfl,by rw[List.length_append,hsl];rfl,fun z hz=>?_⟩
   · obtain⟨a,b,c,e⟩:=P3
     exact⟨a,b,c,by rw[upd_ne nDp.symm];exact e⟩
   rcases List.mem_append.mp hz with z | z
   · exact hsp _ z
   cases List.mem_singleton.mp z;exact⟨y0,y1⟩
 rintro σ' H2 ⟨v,sp,rfl,P2,K2,hD2,hsl,hsp⟩;rw[List.length_map]at hsl;have nDp:D≠p:=(P1.ne0 hD).symm;have hk2:=K2 _ _ nkp hk1;have hq2:=K2 _ _ nqp hq1;have hd2:=K2 _ _ ndp hd1;have K02:=K1.trans K2;obtain⟨kv,ekv⟩:∃ kv,kv=ks.map fun k=>(k,(rLook r k).getD 0):=⟨_,rfl⟩;have kvp:kv.Perm r:=by rw[ekv];exact kv_perm ok kp
 have kvl:kv.length=ks.length:=by rw[ekv,List.length_map]
 walk_at "W";refine⟨by show(0:Nat)<=sizeLine;decide,fun s hs=>?_⟩
 have J0:W32 H2 p s [] ns kv sp 0 [] (upd H2 s (.lst [])):=⟨P2.new hs,SW.Same.but (Same.new hs),hs,(P2.ne0 hs).symm,upd_same,.nil,Sgs.nil⟩;generalize upd H2 s (.lst [])=H3 at *;walk_at "W";refine SW.iLen (.inl (SqL.of (J0.k _ _ nqp hq2))) ?_;rw[List.length_map];refine⟨(ns.length:Int),rfl,by omega,by omega,?_⟩
 refine SW.forRangeC (fun i σ H'=>∃(s:Addr) (xs:List V) (ss:List Seg) (v6 v7 v8:Option V),σ=[some (.ref p),some (.ref d),some (.ref q),some (.ref kq),some (.ref D),some (.ref s),v6,v7,v8]/\W32 H2 p s xs ns kv sp i ss H') ⟨_,_,_,_,_,_,rfl,J0⟩ ?_ ?_
 · clear J0
   rintro i σ H4 hi ⟨s,xs,ss,v6,v7,v8,rfl,J4⟩;have hi:i < ns.length:=by omega
   have hk4:=J4.k _ _ nkp hk2;have hq4:=J4.k _ _ nqp hq2;have hd4:=J4.k _ _ ndp hd2;have hD4:=J4.k _ _ nDp hD2;walk_at "W";refine SW.iLen (.inl (SqL.of hk4)) ?_;rw[List.length_map];refine⟨(ks.length:Int),rfl,by omega,by omega,fun D5 hD5=>?_⟩
   have hi0:(0+(i:Int))=(i:Int):=Int.zero_add _;refine comp_range (n:=ks.length) (fun i2 σ' H'=>∃(v:Option V) (as:List V),σ'=[v,some (.ref d),some (.ref kq),some (.ref D),some (.int (0+(i:Int)))]/\Same H4 H'/\H' D5=some (.lst as)/\Prs H' as (prAt kv sp i2 (i:Int))/\as.length<=i2) ⟨none,[],rfl,Same.new hD5,upd_same,.nil,Nat.le_refl _⟩ ?_ ?_
   · rintro i2 σ' H5 hi2 ⟨v,as,rfl,s5,h5,pr5,al5⟩
     have hki:ks[i2]?=some ks[i2]:=List.getElem?_eq_getElem hi2;have hsi:sp[i2]?=some (sp[i2]'(by omega)):=List.getElem?_eq_getElem (by omega)
     generalize ks[i2]=ky at hki;generalize (sp[i2]'(by omega))=sx at hsi
     have hkv:kv[i2]?=some (ky,(rLook r ky).getD 0):=by rw[ekv,List.getElem?_map,hki];rfl
     obtain⟨y,hy⟩:∃ y,rLook r ky=some y:=by
      cases e:rLook r ky with
      | some y=>exact⟨y,rfl⟩
      | none=>exact absurd (kp.mem_iff.mp (List.mem_of_getElem? hki)) ((rLook_none_iff ky).mp e)
     rw[hy]at hkv;have hps:=pr_succ (k:=(i:Int)) hkv hsi;have hk5:=s5 _ _ hk4;have hd5:=s5 _ _ hd4;have hg:DGet H5 d (V.int ky) (some (V.int y)):=by
      have z:=DGet.k (k:=Sum.inl ky) hd5;rw[valV_kvs,hy]at z;exact z
     walk_at "W";refine wIxL (s5 _ _ hD4) (at0 hsi) ?_;walk_at "W";by_cases c:sx=0+(i:Int)
     · rw[if_pos (c.trans hi0)]at hps
       refine iteY (congrArg V.int c) ?_;walk_at "W";refine wIxL hk5 (at0 hki) ?_;walk_at "W";refine wIxL hk5 (at0 hki) ?_;refine⟨d,_,rfl,hg,?_⟩;walk_at "W";refine⟨by show(2:Nat)<=sizeLine;decide,fun t ht=>?_⟩
       have s6:=Same.new (o:=.tup [.int ky,.int y]) ht;have h6:=s6 _ _ h5;have tk:TK (upd H5 t (.tup [.int ky,.int y])) (upd (upd H5 t (.tup [.int ky,.int y])) D5 (.lst (as++[.ref t]))):=fun a xs e=>by rw[upd_ne (ne_of e h6 (by intro z;cases z))];exact e
       refine CN.mk hi2 h6 (by omega) ⟨_,as++[.ref t],rfl,fun b o e=>?_,upd_same,?_,by rw[List.length_append];exact Nat.succ_le_succ al5⟩
       · rw[upd_ne (ne_of_none e hD5)];exact s6 _ _ (s5 _ _ e)
       rw[hps];exact paired_append (.cons ⟨t,rfl,tk _ _ upd_same⟩ .nil) ((pr5.keep fun a xs e=>s6 _ _ e).keep tk)
     rw[if_neg fun z=>c (z.trans hi0.symm),List.append_nil]at hps;refine iteNo (fun z=>c (by injection z)) ?_
     exact CO.mk hi2 ⟨_,as,rfl,s5,h5,by rw[hps];exact pr5,by omega⟩
   rintro σ' H5 ⟨v,as,rfl,s5,h5,pr5,al5⟩;rw[← kvl]at pr5;walk_at "W";refine⟨D5,as,rfl,.inl ⟨SqL.of h5,fun tp htp=>?_⟩⟩;have s6:=Same.new (o:=.tup as) htp;walk_at "W";refine wBM ?_;walk_at "W";have J6:W32 H2 p s xs ns kv sp i ss (upd H5 tp (.tup as)):=⟨(J4.P.same s5).same s6,(J4.k.trans (SW.Same.but s5)).trans (SW.Same.but s6),J4.n,J4.np,s6 _ _ (s5 _ _ J4.h),(J4.t.keep (Same.tk s5)).keep (Same.tk s6),J4.g⟩;have ht6:upd H5 tp (.tup as) tp=some (.tup as):=upd_same;have pr6:Prs (upd H5 tp (.tup as)) as (prAt kv sp kv.length (i:Int)):=pr5.keep fun a xs e=>s6 _ _ e;clear hk4 hq4 hd4 hD4;generalize upd H5 tp (.tup as)=H6 at *;have hq6:=J6.k _ _ nqp hq2;refine⟨.inl ⟨rfl,_,SqL.of J6.h⟩,?_⟩;walk_at "W";have hc:ns[i]?=some ns[i]:=List.getElem?_eq_getElem hi;generalize ns[i]=c at hc;have hbl:i < (ns.drop 1++[0]).length:=by rw[List.length_append,List.length_drop];show _ < _+1;omega
   have hb:(ns.drop 1++[0])[i]?=some ((ns.drop 1++[0])[i]):=List.getElem?_eq_getElem hbl;generalize (ns.drop 1++[0])[i]=b at hb;have hb1:(ns++[0])[i+1]?=some b:=by
    rw[← hb];cases ns with
    | nil=>exact absurd n2 (by decide)
    | cons n ns=>rfl
   refine wIxL hq6 (at0 hc) ?_;walk_at "W";refine⟨by show(1:Nat)<=sizeLine;decide,fun x1 h1=>?_⟩
   have s7:=Same.new (o:=.lst [.int 0]) h1;walk_at "W";refine⟨q,x1,_,_,rfl,rfl,s7 _ _ hq6,upd_same,by rw[List.length_map];show _+1<=_;omega,fun x2 h2=>?_⟩
   have s8:=Same.new (o:=.lst (ns.map V.int++[.int 0])) h2;have hx2:upd (upd H6 x1 (.lst [.int 0])) x2 (.lst (ns.map V.int++[.int 0])) x2=some (.lst ((ns++[0]).map V.int)):=by rw[upd_same,List.map_append];rfl
   have s78:=s7.trans s8;generalize upd (upd H6 x1 (.lst [.int 0])) x2 (.lst (ns.map V.int++[.int 0]))=H8 at *;walk_at "W";refine wIxL hx2 (v:=V.int b) (by
    rw[show(0+(i:Int)+1)=0+((i+1:Nat):Int) by omega]
    exact at0 hb1) ?_
   walk_at "W";refine⟨by show(4:Nat)<=sizeLine;decide,fun u hu=>?_⟩
   have s9:=Same.new (o:=.tup [.str "step",.int c,.int b,.ref tp]) hu;have s69:=s78.trans s9;have hu9:upd H8 u (.tup [.str "step",.int c,.int b,.ref tp]) u=some (.tup [.str "step",.int c,.int b,.ref tp]):=upd_same;generalize upd H8 u (.tup [.str "step",.int c,.int b,.ref tp])=H9 at *;have h9:=s69 _ _ J6.h;have hxl:xs.length<=24:=by
    have e1:=paired_len J6.t;have e2:=walkT_len ss 0;have e3:=J6.g.len;omega
   walk_at "W";refine⟨s,_,_,rfl,rfl,h9,by omega,?_⟩
   have tk:TK H9 (upd H9 s (.lst (xs++[.ref u]))):=fun a xs e=>by rw[upd_ne (ne_of e h9 (by intro z;cases z))];exact e
   have P10:Pot (upd H9 s (.lst (xs++[.ref u]))) p:=by
    obtain⟨a,b,c,e⟩:=J6.P.same s69;exact⟨a,b,c,by rw[upd_ne J6.np.symm];exact e⟩
   have K10:KeepBut p H2 (upd H9 s (.lst (xs++[.ref u]))):=KeepBut.over (J6.k.trans (SW.Same.but s69)) J6.n;have t10:ThVs (upd H9 s (.lst (xs++[.ref u]))) (xs++[.ref u]) (walkT 0 ss++[.step c b (prAt kv sp kv.length (i:Int))]):=
    paired_append (.cons ⟨u,tp,as,rfl,tk _ _ hu9,tk _ _ (s69 _ _ ht6),(pr6.keep fun a xs e=>s69 _ _ e).keep tk⟩ .nil) ((J6.t.keep (Same.tk s69)).keep tk)
   have h10:upd H9 s (.lst (xs++[.ref u])) s=some (.lst (xs++[.ref u])):=upd_same;generalize upd H9 s (.lst (xs++[.ref u]))=H10 at *;clear tk h9 hu9 s69 s78 s7 s8 s9 pr6 ht6 hq6;have J6:=J6.g;walk_at "W";refine wTakeP P10 (by decide) (by decide) fun cn H11 n0 n1 P11 K11=>?_
   have nsp:s≠p:=J4.np;have h11:=K11 _ _ nsp h10;have t11:=t10.keep (P10.tk K11);have K211:=K10.trans K11;walk_at "W";refine ite2 (fun _=>?_) (fun _=>?_)
   · walk_at "W"
     refine wWorthP P11 fun y H12 P12 K12=>?_;have h12:=K12 _ _ nsp h11;have t12:=t11.keep (P11.tk K12);have K212:=K211.trans K12;walk_at "W";refine⟨by show(4:Nat)<=sizeLine;decide,fun u1 hu1=>?_⟩
     have a1:=Same.new (o:=.tup [.str "put",.int (100+(0+(i:Int))),.int y,.non]) hu1;have e1:upd H12 u1 (.tup [.str "put",.int (100+(0+(i:Int))),.int y,.non]) u1=some (.tup [.str "put",.int (100+(0+(i:Int))),.int y,.non]):=upd_same;generalize upd H12 u1 (.tup [.str "put",.int (100+(0+(i:Int))),.int y,.non])=H13 at *;walk_at "W";refine⟨by show(3:Nat)<=sizeLine;decide,fun u2 hu2=>?_⟩
     have a2:=Same.new (o:=.tup [.str "look",.int (100+(0+(i:Int))),.int y]) hu2;have e2:upd H13 u2 (.tup [.str "look",.int (100+(0+(i:Int))),.int y]) u2=some (.tup [.str "look",.int (100+(0+(i:Int))),.int y]):=upd_same;generalize upd H13 u2 (.tup [.str "look",.int (100+(0+(i:Int))),.int y])=H14 at *;walk_at "W";refine⟨by show(3:Nat)<=sizeLine;decide,fun u3 hu3=>?_⟩
     have a3:=Same.new (o:=.tup [.str "cut",.int (100+(0+(i:Int))),.int y]) hu3;have e3:upd H14 u3 (.tup [.str "cut",.int (100+(0+(i:Int))),.int y]) u3=some (.tup [.str "cut",.int (100+(0+(i:Int))),.int y]):=upd_same;generalize upd H14 u3 (.tup [.str "cut",.int (100+(0+(i:Int))),.int y])=H15 at *;walk_at "W";refine⟨by show(3:Nat)<=sizeLine;decide,fun l1 hl1=>?_⟩
     have a4:=Same.new (o:=.lst [.ref u1,.ref u2,.ref u3]) hl1;have e4:upd H15 l1 (.lst [.ref u1,.ref u2,.ref u3]) l1=some (.lst [.ref u1,.ref u2,.ref u3]):=upd_same;generalize upd H15 l1 (.lst [.ref u1,.ref u2,.ref u3])=H16 at *;have a14:=((a1.trans a2).trans a3).trans a4;walk_at "W";refine⟨s,l1,_,_,rfl,rfl,a14 _ _ h12,e4,by rw[List.length_append];show _+1+3<=_;omega,fun l2 hl2=>?_⟩
     have a5:=Same.new (o:=.lst (xs++[.ref u]++[.ref u1,.ref u2,.ref u3])) hl2;have a15:=a14.trans a5;have nn:H2 l2=none:=KeepBut.back (K212.trans (SW.Same.but a14)) (P12.same a14) hl2;walk_at "W";refine⟨l2,_,ss++[⟨c,b,prAt kv sp kv.length (i:Int),some y⟩],_,_,_,rfl,P12.same a15,K212.trans (SW.Same.but a15),nn,((P12.same a14).ne0 hl2).symm,upd_same,?_,J6.app hc hb⟩;rw[walkT_app,J6.len,Nat.zero_add,show walkT 0 ss++(Thing.step c b (prAt kv sp kv.length (i:Int))::dd i (some y))=walkT 0 ss++[Thing.step c b (prAt kv sp kv.length (i:Int))]++dd i (some y) by rw[List.append_assoc];rfl]
     rw[hi0]at e1 e2 e3;exact paired_append (.cons ⟨u1,rfl,a5 _ _ (a4 _ _ (a3 _ _ (a2 _ _ e1)))⟩ (.cons ⟨u2,rfl,a5 _ _ (a4 _ _ (a3 _ _ e2))⟩ (.cons ⟨u3,rfl,a5 _ _ (a4 _ _ e3)⟩ .nil))) (t12.keep (Same.tk a15))
   walk_at "W";refine⟨s,_,ss++[⟨c,b,prAt kv sp kv.length (i:Int),none⟩],_,_,_,rfl,P11,K211,J4.n,nsp,h11,?_,J6.app hc hb⟩;rw[walkT_app];exact t11
 rintro σ H4 ⟨s,xs,ss,v6,v7,v8,rfl,J4⟩;have e:((ns.length:Int)).toNat=ns.length:=rfl;rw[e]at J4;walk_at "W";obtain⟨c1,c2⟩:=J4.g.done hpt hl5 (by omega) hsp
 exact k s xs ss H4 (KeepBut.back K02 P2 J4.n) J4.h J4.t c1 (c2.trans kvp) J4.g.len J4.P (K02.trans J4.k)
theorem prs_lay(r:MRow):(PyData.list (r.map fun p=>PyData.tuple [.int p.1,.int p.2])).canLay0=true:=by
 induction r with
 | nil=>rfl
 | cons z zs ih=>exact ih
theorem prs_depth(r:MRow):(PyData.list (r.map fun p=>PyData.tuple [.int p.1,.int p.2])).depth<=60:=by
 have:PyData.depthAll (r.map fun p=>PyData.tuple [.int p.1,.int p.2])<=5:=by
  induction r with
  | nil=>decide
  | cons y ys ih=>simp only[List.map_cons,PyData.depthAll,PyData.depth];omega
 simp only[PyData.depth];omega
theorem pair_in(p:Int×Int):∀ r:MRow,((r.map fun q=>PyData.tuple [.int q.1,.int q.2]).any fun e=>PyData.eqv e (.tuple [.int p.1,.int p.2]))=decide (p∈r)
 | []=>rfl
 | q::r=>by
   rw[List.map_cons,List.any_cons,pair_in p r];have e:PyData.eqv (.tuple [.int q.1,.int q.2]) (.tuple [.int p.1,.int p.2])=decide (p=q):=by
    by_cases h:p=q
    · rw[h,decide_eq_true rfl]
      exact SeqAt.eqv_refl _ rfl
    rw[decide_eq_false h];cases z:PyData.eqv (.tuple [.int q.1,.int q.2]) (.tuple [.int p.1,.int p.2])with
    | false=>rfl
    | true=>
      refine absurd ?_ h;simp[PyData.eqv,PyData.eqvAll]at z;exact Prod.ext z.1.symm z.2.symm
   rw[e];by_cases h:p=q
   · rw[decide_eq_true h,decide_eq_true (show p∈q::r from h ▸ List.mem_cons_self)]
     rfl
   rw[decide_eq_false h,Bool.false_or];by_cases z:p∈r
   · rw[decide_eq_true z,decide_eq_true (List.mem_cons_of_mem _ z)]
   rw[decide_eq_false z,decide_eq_false fun y=>(List.mem_cons.mp y).elim h z]
theorem pair_eqv(p q:Int×Int):PyData.eqv (.tuple [.int q.1,.int q.2]) (.tuple [.int p.1,.int p.2])=decide (q=p):=by
 have:=pair_in p [q];rw[List.map_cons,List.map_nil,List.any_cons,List.any_nil,Bool.or_false]at this;rw[this];exact decide_eq_decide.mpr ⟨fun h=>(List.mem_singleton.mp h).symm,fun h=>List.mem_singleton.mpr h.symm⟩
theorem paired_setP{α β:Type}{F:α -> β -> Prop}{v:α}{d:β}(h:F v d):∀{xs:List α}{ys:List β} (i:Nat),Paired F xs ys->Paired F (xs.set i v) (ys.set i d)
 | _,_,_,.nil=>.nil
 | _,_,0,.cons _ t=>.cons h t
 | _,_,i+1,.cons a t=>.cons a (paired_setP h i t)
theorem cut3{a b c d:V}:cutV [a,b,c,d] none (some 3)=[a,b,c]:=rfl
theorem cut3n{a b c d:V}:¬ (HT.sIx [a,b,c,d].length 0 none=0/\HT.sIx [a,b,c,d].length [a,b,c,d].length (some 3)=[a,b,c,d].length):=by
 show ¬ (HT.sIx 4 0 none=0/\HT.sIx 4 4 (some 3)=4)
 decide
theorem fit_set{T:List Thing}(h:∀ t∈T,Fit t)(i:Nat){t:Thing}(ht:Fit t):∀ u∈T.set i t,Fit u:=fun u hu=>by
 rcases List.mem_or_eq_of_mem_set hu with z | z
 · exact h u z
 rw[z];exact ht
def tellsAt(T:List Thing)(p:Int×Int)(i:Nat):Bool:=match T[i]? with
 | some (.step _ _ Q)=>decide (p∈Q)
 | _=>false
theorem tellsAt_eq{T:List Thing}{p:Int×Int}{i:Nat}{c b:Int}{Q:MRow}(h:T[i]?=some (.step c b Q)):tellsAt T p i=decide (p∈Q):=by
 unfold tellsAt;rw[h]
def BadV(A:List Thing)(q:Addr)(H:Hp)(v:V):Prop:=∃(u b:Addr) (xs:List V) (B:List Thing) (o:Option Nat),v=.ref u/\b≠q/\H u=some (.tup [.ref b,oN o])/\H b=some (.lst xs)/\ThVs H xs B/\fw L0 (A++B)=o.map (A.length + ·)/\B.length<=40 /\ ∀ t∈B,Fit t
theorem BadV.same{A:List Thing}{q:Addr}{H H':Hp}{v:V}(h:BadV A q H v)(s:Same H H'):BadV A q H' v:=by
 obtain⟨u,b,xs,B,o,h1,h2,h3,h4,h5,h6⟩:=h;exact⟨u,b,xs,B,o,h1,h2,s _ _ h3,s _ _ h4,h5.keep (Same.tk s),h6⟩
theorem BadV.over{A:List Thing}{q:Addr}{H:Hp}{v:V}{ys zs:List V}(h:BadV A q H v)(hq:H q=some (.lst ys)):BadV A q (upd H q (.lst zs)) v:=by
 obtain⟨u,b,xs,B,o,h1,h2,h3,h4,h5,h6⟩:=h;have tk:TK H (upd H q (.lst zs)):=fun a xs e=>by rw[upd_ne (ne_of e hq (by intro z;cases z))];exact e
 exact⟨u,b,xs,B,o,h1,h2,tk _ _ h3,by rw[upd_ne h2];exact h4,h5.keep tk,h6⟩
theorem BadV.to{A:List Thing}{q q':Addr}{H:Hp}{v:V}(h:BadV A q H v)(hq:H q'=none):BadV A q' H v:=by
 obtain⟨u,b,xs,B,o,h1,h2,h3,h4,h6⟩:=h;exact⟨u,b,xs,B,o,h1,ne_of_none h4 hq,h3,h4,h6⟩
theorem fit_apps{A B:List Thing}(h:∀ t∈A,Fit t)(h':∀ t∈B,Fit t):∀ u∈A++B,Fit u:=fun u hu=>(List.mem_append.mp hu).elim (h u) (h' u)
theorem iteF2{c A B:Prop}[Decidable c](hc:¬ c)(h:A):if(!decide c)=true then A else B:=by
 rw[decide_eq_false hc];exact iteT h
theorem Wk_one{A:List Thing}{r:MRow}{ss:List Seg}{i j:Nat}{c b c' b':Int}{Q Q':MRow}{p:Int×Int}(h:Wk A r ss)(e:(walkT 0 ss)[i]?=some (.step c b Q))(e':(walkT 0 ss)[j]?=some (.step c' b' Q'))(hp:p∈Q)(hp':p∈Q'):i=j:=by
 obtain⟨a,s,d,es,_,_,hQ,hi,_⟩:=seg_split ss 0 i c b Q e;obtain⟨a',s',d',es',_,_,hQ',hj,_⟩:=seg_split ss 0 j c' b' Q' e';have key:∀{a a' d d':List Seg}{s s':Seg},ss=a++s::d->ss=a'++s'::d'->p∈s.Q->p∈s'.Q->a.length < a'.length->False:=by
  intro a a' d d' s s' e1 e2 p1 p2 hl;have z:s∈a':=by
   have:(a++s::d)[a.length]?=some s:=by rw[List.getElem?_append_right (Nat.le_refl _),Nat.sub_self];rfl
   rw[← e1,e2,List.getElem?_append_left hl]at this;exact List.mem_of_getElem? this
  rw[e2]at h;exact h.alone p2 s (.inl z) (List.mem_map_of_mem p1)
 rw[← hQ]at hp;rw[← hQ']at hp';rcases Nat.lt_trichotomy a.length a'.length with z | z | z
 · exact(key es es' hp hp' z).elim
 · rw[hi,hj,(List.append_inj (es.symm.trans es') z).1]
 exact(key es' es hp' hp z).elim
def FewQ:Thing->Prop
 | .step _ _ ps=>ps.length<=9
 | _=>True
structure Ft(p s st uh qa uf qf tw lg:Addr)(xs pa pf pw gs:List V)(T G:List Thing)(Qa Qf Qw:MRow)(p0:Int×Int)(cf bf:Int)(H:Hp):Prop where
 P:Pot H p
 hs:H s=some (.lst xs)
 ht:ThVs H xs T
 hst:H st=some (.lst ((stN T).map fun n:Nat=>V.int (n:Int)))
 huh:H uh=some (.tup [.int p0.1,.int p0.2])
 hqa:H qa=some (.tup pa)
 pra:Prs H pa Qa
 huf:H uf=some (.tup [.str "step",.int cf,.int bf,.ref qf])
 hqf:H qf=some (.tup pf)
 prf:Prs H pf Qf
 htw:H tw=some (.tup pw)
 prw:Prs H pw Qw
 hlg:H lg=some (.lst gs)
 tg:ThVs H gs G
theorem Ft.same{p s st uh qa uf qf tw lg:Addr}{xs pa pf pw gs:List V}{T G:List Thing}{Qa Qf Qw:MRow}{p0:Int×Int}{cf bf:Int}{H H':Hp}(h:Ft p s st uh qa uf qf tw lg xs pa pf pw gs T G Qa Qf Qw p0 cf bf H)(k:Same H H'):Ft p s st uh qa uf qf tw lg xs pa pf pw gs T G Qa Qf Qw p0 cf bf H':=
 have tk:=Same.tk k
 ⟨h.P.same k,k _ _ h.hs,h.ht.keep tk,k _ _ h.hst,k _ _ h.huh,k _ _ h.hqa,h.pra.keep tk,k _ _ h.huf,k _ _ h.hqf,h.prf.keep tk,k _ _ h.htw,h.prw.keep tk,k _ _ h.hlg,h.tg.keep tk⟩
theorem Ft.over{p s st uh qa uf qf tw lg q:Addr}{xs pa pf pw gs ys zs:List V}{T G:List Thing}{Qa Qf Qw:MRow}{p0:Int×Int}{cf bf:Int}{H:Hp}(h:Ft p s st uh qa uf qf tw lg xs pa pf pw gs T G Qa Qf Qw p0 cf bf H)(hq:H q=some (.lst ys))(n1:q≠p)(n2:q≠s)(n3:q≠st)(n4:q≠lg):Ft p s st uh qa uf qf tw lg xs pa pf pw gs T G Qa Qf Qw p0 cf bf (upd H q (.lst zs)):=by
 have tk:TK H (upd H q (.lst zs)):=fun a xs e=>by rw[upd_ne (ne_of e hq (by intro z;cases z))];exact e
 obtain⟨a,b,c,e⟩:=h.P;exact⟨⟨a,b,c,by rw[upd_ne n1.symm];exact e⟩,by rw[upd_ne n2.symm];exact h.hs,h.ht.keep tk,by rw[upd_ne n3.symm];exact h.hst,tk _ _ h.huh,tk _ _ h.hqa,h.pra.keep tk,tk _ _ h.huf,tk _ _ h.hqf,h.prf.keep tk,tk _ _ h.htw,h.prw.keep tk,by rw[upd_ne n4.symm];exact h.hlg,h.tg.keep tk⟩
structure Sm(H0:Hp)(A:List Thing)(q:Addr)(ys:List V)(p s st uh qa uf qf tw lg:Addr)(xs pa pf pw gs:List V)(T G:List Thing)(Qa Qf Qw:MRow)(p0:Int×Int)(cf bf:Int)(H:Hp):Prop where
 J:Ft p s st uh qa uf qf tw lg xs pa pf pw gs T G Qa Qf Qw p0 cf bf H
 k:KeepBut p H0 H
 hq:H q=some (.lst ys)
 B:∀ y∈ys,BadV A q H y
 n1:q≠p
 n2:q≠s
 n3:q≠st
 n4:q≠lg
 h0:H0 q=none
 le:ys.length<=20
theorem Sm.same{p s st uh qa uf qf tw lg q:Addr}{xs pa pf pw gs ys:List V}{T G A:List Thing}{Qa Qf Qw:MRow}{p0:Int×Int}{cf bf:Int}{H0 H H':Hp}(h:Sm H0 A q ys p s st uh qa uf qf tw lg xs pa pf pw gs T G Qa Qf Qw p0 cf bf H)(k:Same H H'):Sm H0 A q ys p s st uh qa uf qf tw lg xs pa pf pw gs T G Qa Qf Qw p0 cf bf H':=
 ⟨h.J.same k,h.k.trans (SW.Same.but k),k _ _ h.hq,fun y hy=>(h.B y hy).same k,h.n1,h.n2,h.n3,h.n4,h.h0,h.le⟩
theorem Sm.add{p s st uh qa uf qf tw lg q:Addr}{xs pa pf pw gs ys:List V}{T G A:List Thing}{Qa Qf Qw:MRow}{p0:Int×Int}{cf bf:Int}{H0 H:Hp}(h:Sm H0 A q ys p s st uh qa uf qf tw lg xs pa pf pw gs T G Qa Qf Qw p0 cf bf H){v:V}(hv:BadV A q H v)(hl:ys.length<=19):Sm H0 A q (ys++[v]) p s st uh qa uf qf tw lg xs pa pf pw gs T G Qa Qf Qw p0 cf bf (upd H q (.lst (ys++[v]))):=
 ⟨h.J.over h.hq h.n1 h.n2 h.n3 h.n4,KeepBut.over h.k h.h0,upd_same,fun y hy=>by
  rcases List.mem_append.mp hy with z | z
  · exact(h.B y z).over h.hq
  cases List.mem_singleton.mp z;exact hv.over h.hq,h.n1,h.n2,h.n3,h.n4,h.h0,by rw[List.length_append];exact Nat.succ_le_succ hl⟩
theorem Sm.bad{p s st uh qa uf qf tw lg q:Addr}{xs pa pf pw gs ys:List V}{T G A:List Thing}{Qa Qf Qw:MRow}{p0:Int×Int}{cf bf:Int}{H0 H:Hp}(h:Sm H0 A q ys p s st uh qa uf qf tw lg xs pa pf pw gs T G Qa Qf Qw p0 cf bf H){u b:Addr}{bs:List V}{Bt:List Thing}{o:Option Nat}(hb:H b=some (.lst bs))(nb:b≠q)(hu:H u=some (.tup [.ref b,oN o]))(ht:ThVs H bs Bt)(hf:fw L0 (A++Bt)=o.map (A.length + ·))(hl:Bt.length<=40)(hfit:∀ t∈Bt,Fit t):BadV A q H (.ref u):=⟨u,b,bs,Bt,o,rfl,nb,hu,hb,ht,hf,hl,hfit⟩
def spFaults32:Sp:=fun vs H Q _=>∃(p s st d:Addr) (xs:List V) (r:MRow) (ss:List Seg) (A:List Thing),vs=[.ref p,.ref s,.ref st,.ref d]/\Pot H p/\s≠p/\st≠p/\d≠p/\H s=some (.lst xs)/\ThVs H xs (walkT 0 ss)/\H st=some (.lst ((stN (walkT 0 ss)).map fun n:Nat=>V.int (n:Int)))/\H d=some (.dK (kvs r)) /\
 Wk A r ss/\(50:Int)∉r.map (·.1)/\r.length<=9/\r≠[]/\ss.length<=6/\(∀ t∈walkT 0 ss,Fit t)/\(∀ t∈walkT 0 ss,FewQ t) /\ ∀ q ys H',H' q=some (.lst ys)->(∀ y∈ys,BadV A q H' y)->Pot H' p->KeepBut p H H'->H q=none->Q (.ref q) H'
theorem q1_(d:Dfn K mg "_law_faults" z11_ ["pot","walk","steps","plain"])(g:Gs K mg C)(q14_:Fn P w K mg base "_law_take" 2 ["pot","many"] spTakeP)(q12_:Fn P w K mg base "_law_put_in" 1 ["story","at","row"] spPutIn):Fn P w K mg base "_law_faults" 3 ["pot","walk","steps","plain"] spFaults32:=by
 refine d.fn z33_ (fun vs H Q E h=>?_) (fun f cdv A' outer st' H vs Q E hr h=>?_)
 · obtain⟨p,s,st,d,xs,r,ss,A,rfl,_⟩:=h
   rfl
 obtain⟨p,s,st,d,xs,r,ss,A,rfl,hp,nsp,ntp,ndp,hs,ht,hst,hd,wk,n50,hl,hne,h6,hfit,fewQ,k⟩:=h;have lim:sizeLine=16777216:=sizeLine_eq;refine⟨_,(B.scons (B.set 4 z33_.nd (B.ix ix_list (B.v 2) (B.fn q14_ hr.up (B.cons (B.v 0) (B.cons (B.cB call_len_seq g.b_len SW.b_len (B.cons (B.v 2) B.nil)) B.nil)))))
  (B.scons (B.asg (B.ix ix_list (B.v 1) (B.v 4)) (B.gtup (B.gcons (B.gname (i:=5) z33_.nd) (B.gcons (B.gname (i:=6) z33_.nd) (B.gcons (B.gname (i:=7) z33_.nd) (B.gcons (B.gname (i:=8) z33_.nd) B.gnil))))))
  (B.scons (B.set 9 z33_.nd (B.ix ix_list (B.cB SW.call_sortedIP g.b_sorted SW.b_sorted (B.cons (B.items (B.v 3)) B.nil)) (B.fn q14_ hr.up (B.cons (B.v 0) (B.cons (B.cB call_lenD g.b_len SW.b_len (B.cons (B.v 3) B.nil)) B.nil)))))
  (B.scons (B.set 10 z33_.nd (B.ix ix_list (SW.B.compIf [1,9] ["k","walk","held"] (SW.CompScope.of rfl rfl (by decide +kernel) (by decide +kernel) rfl ⟨rfl,rfl,trivial⟩ rfl rfl rfl) (by decide +kernel) (B.ilist (B.v 2)) (fun _ _ _ _=>(B.tcmpI (op_inDT K hr.units) (B.v 2) (B.ix (SW.ix_tupK K) (B.ix (SW.ix_listK K) (B.v 1) (B.v 0)) B.int))) (fun _ _ _ _=>(B.v 0))) B.int))
  (B.scons (B.set 11 z33_.nd (B.cT call_tuple_of g.b_tuple SW.b_tuple (B.cons (SW.B.compIf [9] ["pair","held"] (SW.CompScope.of rfl rfl (by decide +kernel) (by decide +kernel) rfl ⟨rfl,trivial⟩ rfl rfl rfl) (by decide +kernel) (B.itup (B.ix ix_tup (B.ix ix_list (B.v 1) (B.v 10)) B.int)) (fun _ _ _ _=>(B.tcmp (op_neD K hr.units) (B.v 0) (B.v 1))) (fun _ _ _ _=>(B.v 0))) B.nil)))
  (B.scons (B.set 12 z33_.nd (B.fn q12_ hr.up (B.cons (B.v 1) (B.cons (B.v 10) (B.cons (B.op op_catA (B.slice sl_tup (B.ix ix_list (B.v 1) (B.v 10)) B.nopart (B.part B.int)) (B.tup (B.cons (B.v 11) B.nil))) B.nil)))))
  (B.scons (B.set 13 z33_.nd (B.lst (B.cons (B.tup (B.cons (B.v 12) (B.cons (B.ix ix_list (B.v 2) (B.un un_neg B.int)) B.nil))) (B.cons (B.tup (B.cons (B.fn q12_ hr.up (B.cons (B.v 1) (B.cons (B.v 4) (B.cons (B.tup (B.cons (B.v 5) (B.cons (B.v 6) (B.cons (B.v 7) (B.cons (B.op op_catA (B.v 8) (B.tup (B.cons (B.tup (B.cons B.int (B.cons B.int B.nil))) B.nil))) B.nil))))) B.nil)))) (B.cons (B.v 4) B.nil))) B.nil))))
  (B.scons (B.expr (B.m PySem.F.plainAttrs_list PySem.F.slot_list_append PySem.F.type_list_append mt_append (B.v 13) (B.cons (B.tup (B.cons (B.fn q12_ hr.up (B.cons (B.v 1) (B.cons (B.v 10) (B.cons (B.op op_catA (B.slice sl_tup (B.ix ix_list (B.v 1) (B.v 10)) B.nopart (B.part B.int)) (B.tup (B.cons (B.op op_catA (B.ix ix_tup (B.ix ix_list (B.v 1) (B.v 10)) B.int) (B.tup (B.cons (B.v 9) B.nil))) B.nil))) B.nil)))) (B.cons (B.v 10) B.nil))) B.nil)))
  (B.scons (B.set 14 z33_.nd (B.op op_catA (B.v 11) (B.tup (B.cons (B.tup (B.cons (B.ix ix_tup (B.v 9) B.int) (B.cons (B.op op_add (B.ix ix_tup (B.v 9) B.int) (B.ix ix_list (B.lst (B.cons B.int (B.cons (B.un un_neg B.int) B.nil))) (B.cT call_int1 g.b_int SW.b_int (B.cons (B.cmp op_gt (B.ix ix_tup (B.v 9) B.int) B.int) B.nil)))) B.nil))) B.nil))))
  (B.scons (B.expr (B.m PySem.F.plainAttrs_list PySem.F.slot_list_append PySem.F.type_list_append mt_append (B.v 13) (B.cons (B.tup (B.cons (B.fn q12_ hr.up (B.cons (B.v 1) (B.cons (B.v 10) (B.cons (B.op op_catA (B.slice sl_tup (B.ix ix_list (B.v 1) (B.v 10)) B.nopart (B.part B.int)) (B.tup (B.cons (B.v 14) B.nil))) B.nil)))) (B.cons (B.v 10) B.nil))) B.nil)))
  (B.scons (B.expr (B.m PySem.F.plainAttrs_list PySem.F.slot_list_append PySem.F.type_list_append mt_append (B.v 13) (B.cons (B.tup (B.cons (B.fn q12_ hr.up (B.cons (B.v 1) (B.cons (B.v 4) (B.cons (B.tup (B.cons (B.v 5) (B.cons (B.op op_add (B.v 6) B.int) (B.cons (B.v 7) (B.cons (B.v 8) B.nil))))) B.nil)))) (B.cons (B.v 4) B.nil))) B.nil)))
  (B.scons (B.expr (B.m PySem.F.plainAttrs_list PySem.F.slot_list_append PySem.F.type_list_append mt_append (B.v 13) (B.cons (B.tup (B.cons (B.fn q12_ hr.up (B.cons (B.v 1) (B.cons (B.ix ix_list (B.v 2) B.int) (B.cons (B.tup (B.cons B.str (B.cons B.int (B.cons B.int (B.cons (B.ix ix_tup (B.ix ix_list (B.v 1) B.int) B.int) B.nil))))) B.nil)))) (B.cons B.int B.nil))) B.nil)))
  (B.scons (B.ifs (B.tcmp op_ne (B.v 4) (B.ix ix_list (B.v 2) B.int)) (B.sone (B.expr (B.m PySem.F.plainAttrs_list PySem.F.slot_list_append PySem.F.type_list_append mt_append (B.v 13) (B.cons (B.tup (B.cons (B.fn q12_ hr.up (B.cons (B.v 1) (B.cons (B.v 4) (B.cons (B.tup (B.cons (B.v 5) (B.cons (B.v 6) (B.cons (B.v 6) (B.cons (B.v 8) B.nil))))) B.nil)))) (B.cons (B.v 4) B.nil))) B.nil)))) B.snil)
  (B.scons (B.set 15 z33_.nd (B.lst (B.cons (B.tup (B.cons B.str (B.cons (B.ix ix_tup (B.v 9) B.int) (B.cons (B.ix ix_tup (B.v 9) B.int) B.nil)))) B.nil)))
  (B.scons (B.set 16 z33_.nd (B.lst (B.cons (B.tup (B.cons B.str (B.cons (B.ix ix_tup (B.v 9) B.int) (B.cons B.int (B.cons B.non B.nil))))) B.nil)))
  (B.scons (B.ifs (B.tcmp op_ne (B.v 10) (B.ix ix_list (B.v 2) B.int)) (B.sone (B.set 13 z33_.nd (B.op op_cat (B.v 13) (B.lst (B.cons (B.tup (B.cons (B.op op_cat (B.op op_cat (B.slice sl_list (B.v 12) B.nopart (B.part B.int)) (B.v 15)) (B.slice sl_list (B.v 12) (B.part B.int) B.nopart)) (B.cons B.non B.nil))) (B.cons (B.tup (B.cons (B.op op_cat (B.op op_cat (B.op op_cat (B.slice sl_list (B.v 12) B.nopart (B.part B.int)) (B.v 15)) (B.v 16)) (B.slice sl_list (B.v 12) (B.part B.int) B.nopart)) (B.cons B.non B.nil))) B.nil)))))) B.snil)
  (B.scons (B.ifs (B.tcmp op_ne (B.v 4) (B.v 10)) (B.sone (B.expr (B.m PySem.F.plainAttrs_list PySem.F.slot_list_append PySem.F.type_list_append mt_append (B.v 13) (B.cons (B.tup (B.cons (B.fn q12_ hr.up (B.cons (B.v 1) (B.cons (B.v 4) (B.cons (B.tup (B.cons (B.v 5) (B.cons (B.v 6) (B.cons (B.v 7) (B.cons (B.op op_catA (B.v 8) (B.tup (B.cons (B.v 9) B.nil))) B.nil))))) B.nil)))) (B.cons B.non B.nil))) B.nil)))) B.snil)
  (B.sone (B.ret (B.v 13)))))))))))))))))))),?_⟩
 rw[show L2.start _ [V.ref p,V.ref s,V.ref st,V.ref d]=[some (.ref p),some (.ref s),some (.ref st),some (.ref d),none,none,none,none,none,none,none,none,none,none,none,none,none]from rfl];have hss:ss≠[]:=fun z=>by have:=wk.ch;rw[z]at this;exact this
 have hlast:=stN_last ss 0 hss;have hTl:(walkT 0 ss).length<=24:=by have:=walkT_len ss 0;omega
 have hxl:=paired_len ht;have hsl:(stN (walkT 0 ss)).length<=24:=Nat.le_trans (List.length_filter_le _ _) (by rw[List.length_range];exact hTl)
 have hs0:0 < (stN (walkT 0 ss)).length:=by
  cases e:stN (walkT 0 ss)with
  | nil=>rw[e]at hlast;cases hlast
  | cons _ _=>exact Nat.zero_lt_succ _
 walk_at "W";refine SW.iLen (.inl (SqL.of hst)) ?_;walk_at "W";refine wTakeP hp (by rw[List.length_map];omega) (by rw[List.length_map];omega) fun a H1 a0 a1 P1 K1=>?_
 rw[List.length_map]at a1;obtain⟨ja,rfl⟩:=Int.eq_ofNat_of_zero_le a0;have hja:ja < (stN (walkT 0 ss)).length:=by omega
 have eat:(stN (walkT 0 ss))[ja]?=some ((stN (walkT 0 ss))[ja]):=List.getElem?_eq_getElem hja;generalize (stN (walkT 0 ss))[ja]=at_ at eat;obtain⟨c,b,Qa,hT⟩:=stN_mem (List.mem_of_getElem? eat);have hs1:=K1 _ _ nsp hs;have ht1:=ht.keep (hp.tk K1);have hst1:=K1 _ _ ntp hst;have hd1:=K1 _ _ ndp hd;have hatl:at_ < xs.length:=by rw[hxl];exact Wk.lt hT
 have exa:xs[at_]?=some xs[at_]:=List.getElem?_eq_getElem hatl;obtain⟨_,e1,hva⟩:=paired_get ht1 exa;rw[hT]at e1;cases e1;obtain⟨ua,qa,pa,eva,hua,hqa,pra⟩:=hva;rw[eva]at exa;walk_at "W";refine wIxL hst1 (v:=V.int (at_:Nat)) (L2.atI_nat (by rw[List.getElem?_map,eat];rfl)) ?_
 walk_at "W";refine wIxL hs1 (L2.atI_nat exa) ?_;refine⟨ua,_,rfl,SqT.of hua,rfl,_,_,rfl,_,_,rfl,_,_,rfl,_,_,rfl,rfl,?_⟩;walk_at "W";refine⟨d,_,rfl,hd1,fun v hv=>?_⟩;have s2:=Same.new (o:=ViewO v d) hv;walk_at "W";refine⟨v,d,r,rfl,upd_same,s2 _ _ hd1,rfl,fun l2 ws qs H3 s3 hl2 hl2' hws hpm hso=>?_⟩;have s13:=s2.trans s3;have P3:=P1.same s13;have nl2:l2≠p:=((P1.same s2).ne0 hl2).symm;have hd3:=s13 _ _ hd1;have K3:=K1.trans (SW.Same.but (p:=p) s13);walk_at "W";refine⟨d,_,rfl,hd3,?_⟩;rw[kvs_len];walk_at "W";have hr0:0 < r.length:=by
  cases r with
  | nil=>exact absurd rfl hne
  | cons _ _=>exact Nat.zero_lt_succ _
 have hql:qs.length=r.length:=hpm.length_eq;have hwl:=paired_len hws;refine wTakeP P3 (by omega) (by omega) fun h0 H4 b0 b1 P4 K4=>?_
 obtain⟨jh,rfl⟩:=Int.eq_ofNat_of_zero_le b0;have hjh:jh < ws.length:=by omega
 have ewh:ws[jh]?=some ws[jh]:=List.getElem?_eq_getElem hjh;obtain⟨p0,ep0,uh,euh,huh⟩:=paired_get hws ewh;rw[euh]at ewh;have hp0:p0∈r:=hpm.mem_iff.mp (List.mem_of_getElem? ep0);have K14:KeepBut p H1 H4:=KeepBut.trans (SW.Same.but (p:=p) s13) K4;have tk14:TK H1 H4:=P1.tk K14;have huh4:=P3.tk K4 _ _ huh;have hs4:=K14 _ _ nsp hs1;have ht4:=ht1.keep tk14;have hst4:=K14 _ _ ntp hst1;have hqa4:=tk14 _ _ hqa;have pra4:=pra.keep tk14;have K04:=K1.trans K14;have hl4:=K4 _ _ nl2 hl2';walk_at "W";refine wIxL hl4 (L2.atI_nat ewh) ?_;clear hws hl4 hl2' hl2 hv s2 s3 s13 hua hqa pra hs1 ht1 hst1 hd1 hd3 K14 tk14 K3;walk_at "W";refine⟨st,rfl,⟨_,SqL.of hst4⟩,fun D5 hD5=>?_⟩;have hdh:∀ H',Same H4 H'->DatV K H' (.ref uh) (.tuple [.int p0.1,.int p0.2]):=fun H' s'=>.tup (SqT.of (s' _ _ huh4)) (.cons (.int _) (.cons (.int _) .nil));refine comp_list (xs:=(stN (walkT 0 ss)).map fun n:Nat=>V.int (n:Int)) (fun i σ' H'=>∃(v:Option V) (fs:List Nat),σ'=[v,some (.ref s),some (.ref uh)]/\Same H4 H'/\H' D5=some (.lst (fs.map fun n:Nat=>V.int (n:Int)))/\fs=((stN (walkT 0 ss)).take i).filter (tellsAt (walkT 0 ss) p0)) ⟨none,[],rfl,Same.new hD5,upd_same,by rw[List.take_zero];rfl⟩ (fun i σ' H' _ ⟨v,fs,_,s',_⟩=>SqL.of (s' _ _ hst4)) ?_ ?_
 · rintro i x σ' H' hx hi ⟨v,fs,rfl,s5,h5,efs⟩
   rw[List.getElem?_map]at hx;cases en:(stN (walkT 0 ss))[i]? with
   | none=>rw[en]at hx;cases hx
   | some n=>
     rw[en]at hx;injection hx with hx;subst hx;obtain⟨cn,bn,Qn,hTn⟩:=stN_mem (List.mem_of_getElem? en);have hnl:n < xs.length:=by rw[hxl];exact Wk.lt hTn
     have exn:xs[n]?=some xs[n]:=List.getElem?_eq_getElem hnl;obtain⟨_,e1,hvn⟩:=paired_get (ht4.keep (Same.tk s5)) exn;rw[hTn]at e1;cases e1;obtain⟨un,qn,pn,evn,hun,hqn,prn⟩:=hvn;rw[evn]at exn;have hfl:fs.length<=24:=by
      rw[efs];refine Nat.le_trans (List.length_filter_le _ _) ?_;rw[List.length_take];omega
     have htl:=tellsAt_eq (p:=p0) hTn;walk_at "W";refine wIxL (s5 _ _ hs4) (L2.atI_nat exn) ?_;walk_at "W";refine⟨.tuple [.int p0.1,.int p0.2],qn,pn,_,hdh _ s5,rfl,SqT.of hqn,Prs.dat prn,rfl,prs_lay Qn,by simp only[PyData.depth,PyData.depthAll];omega,?_⟩
     rw[pair_in,← htl];walk_at "W";have efs':((stN (walkT 0 ss)).take (i+1)).filter (tellsAt (walkT 0 ss) p0)=fs++if tellsAt (walkT 0 ss) p0 n=true then[n]else[]:=by
      rw[take_snocF en,List.filter_append,← efs]
      congr 1
      cases e:tellsAt (walkT 0 ss) p0 n <;> simp[e]
     cases ec:tellsAt (walkT 0 ss) p0 n with
     | true=>
       rw[ec]at efs';refine iteT ?_;walk_at "W";refine CN.mk hi h5 (by rw[List.length_map];omega) ⟨_,fs++[n],rfl,fun b o e=>by rw[upd_ne (ne_of_none e hD5)];exact s5 _ _ e,by rw[upd_same,List.map_append];rfl,efs'.symm⟩
     | false=>
       rw[ec]at efs';refine iteF ?_;refine CO.mk hi ⟨_,fs,rfl,s5,h5,?_⟩;rw[efs'];exact(List.append_nil _).symm
 rintro σ' H5 ⟨v,fs,rfl,s5,h5,efs⟩;rw[List.length_map,List.take_length]at efs;obtain⟨fl,fr,efl⟩:∃ fl fr,fs=fl::fr:=by
  obtain⟨sg,hsg,z⟩:=wk.tells hp0;obtain⟨i,hi⟩:=seg_at ss 0 sg hsg;cases e:fs with
  | cons a b=>exact⟨a,b,rfl⟩
  | nil=>
    have:i∈fs:=by
     rw[efs];exact List.mem_filter.mpr ⟨stN_of hi,by rw[tellsAt_eq hi];exact decide_eq_true z⟩
    rw[e]at this;cases this
 have hfl:fl∈stN (walkT 0 ss)/\tellsAt (walkT 0 ss) p0 fl=true:=List.mem_filter.mp (by rw[← efs,efl];exact List.mem_cons_self)
 obtain⟨hfl1,hfl2⟩:=hfl;obtain⟨cf,bf,Qf,hF⟩:=stN_mem hfl1;rw[tellsAt_eq hF]at hfl2;have hin:p0∈Qf:=of_decide_eq_true hfl2;have hfll:fl < xs.length:=by rw[hxl];exact Wk.lt hF
 have exf:xs[fl]?=some xs[fl]:=List.getElem?_eq_getElem hfll;obtain⟨_,e1,hvf⟩:=paired_get (ht4.keep (Same.tk s5)) exf;rw[hF]at e1;cases e1;obtain⟨uf,qf,pf,evf,huf,hqf,prf⟩:=hvf;rw[evf]at exf;rw[efl]at h5;have hs5:=s5 _ _ hs4;have ht5:=ht4.keep (Same.tk s5);have hst5:=s5 _ _ hst4;have huh5:=s5 _ _ huh4;have hqa5:=s5 _ _ hqa4;have pra5:=pra4.keep (Same.tk s5);have P5:=P4.same s5;have K05:KeepBut p H H5:=K04.trans (SW.Same.but s5);walk_at "W";refine wIxL h5 (v:=V.int (fl:Nat)) (L2.atI_nat (j:=0) rfl) ?_;clear h5 hst4 hs4 ht4 huh4 hqa4 pra4 hdh efs efl;walk_at "W";refine wIxL hs5 (L2.atI_nat exf) ?_;walk_at "W";refine⟨qf,rfl,⟨_,SqT.of hqf⟩,fun D6 hD6=>?_⟩;have hfQ:Qf.length<=1000:=hfit _ (List.mem_of_getElem? hF);have hpl:=paired_len prf;refine comp_tup (xs:=pf) (fun i σ' H'=>∃(v:Option V) (as:List V),σ'=[v,some (.ref uh)]/\Same H5 H'/\H' D6=some (.lst as)/\Prs H' as ((Qf.take i).filter fun q=>decide (q≠p0))/\as.length<=i) ⟨none,[],rfl,Same.new hD6,upd_same,by rw[List.take_zero];exact .nil,Nat.le_refl _⟩ (fun i σ' H' _ ⟨v,as,_,s',_⟩=>SqT.of (s' _ _ hqf)) ?_ ?_
 · rintro i x σ' H6 hx hi ⟨v,as,rfl,s6,h6,pr6,al6⟩
   obtain⟨q0,eq0,t0,rfl,ht0⟩:=paired_get prf hx;walk_at "W";refine⟨.tuple [.int q0.1,.int q0.2],.tuple [.int p0.1,.int p0.2],.tup (SqT.of (s6 _ _ ht0)) (.cons (.int _) (.cons (.int _) .nil)),.tup (SqT.of (s6 _ _ huh5)) (.cons (.int _) (.cons (.int _) .nil)),rfl,rfl,by simp only[PyData.depth,PyData.depthAll];omega,?_⟩
   rw[pair_eqv];walk_at "W";by_cases hq:q0=p0
   · rw[decide_eq_true hq]
     refine iteF ?_;refine CO.mk hi ⟨_,as,rfl,s6,h6,?_,by omega⟩
     rw[take_snocF eq0,List.filter_append,List.filter_cons_of_neg (p:=fun q=>decide (q≠p0)) (by simpa using hq)]
     show Prs H6 as (_++[]);rw[List.append_nil];exact pr6
   rw[decide_eq_false hq];refine iteT ?_;walk_at "W";have tk:TK H6 (upd H6 D6 (.lst (as++[.ref t0]))):=fun a xs e=>by rw[upd_ne (ne_of e h6 (by intro z;cases z))];exact e
   refine CN.mk hi h6 (by omega) ⟨_,as++[.ref t0],rfl,fun b o e=>by rw[upd_ne (ne_of_none e hD6)];exact s6 _ _ e,upd_same,?_,by rw[List.length_append];exact Nat.succ_le_succ al6⟩
   rw[take_snocF eq0,List.filter_append,List.filter_cons_of_pos (p:=fun q=>decide (q≠p0)) (decide_eq_true hq)];exact paired_append (.cons ⟨t0,rfl,tk _ _ (s6 _ _ ht0)⟩ .nil) (pr6.keep tk)
 rintro σ' H6 ⟨v,as,rfl,s6,h6,pr6,al6⟩;rw[hpl,List.take_length]at pr6;walk_at "W";refine⟨D6,as,rfl,.inl ⟨SqL.of h6,fun tw htw=>?_⟩⟩;have s7:=Same.new (o:=.tup as) htw;have htw7:upd H6 tw (.tup as) tw=some (.tup as):=upd_same;have pr7:Prs (upd H6 tw (.tup as)) as (Qf.filter fun q=>decide (q≠p0)):=pr6.keep (Same.tk s7);have s57:=s6.trans s7;generalize upd H6 tw (.tup as)=H7 at *;have hs7:=s57 _ _ hs5;have ht7:=ht5.keep (Same.tk s57);have hst7:=s57 _ _ hst5;have huh7:=s57 _ _ huh5;have hqa7:=s57 _ _ hqa5;have pra7:=pra5.keep (Same.tk s57);have huf7:=s57 _ _ huf;have hqf7:=s57 _ _ hqf;have prf7:=prf.keep (Same.tk s57);have P7:=P5.same s57;have K07:KeepBut p H H7:=K05.trans (SW.Same.but s57);clear s57 s7 s6 h6 pr6 htw hs5 ht5 hst5 huh5 hqa5 pra5 huf hqf prf P5 K05;walk_at "W";refine wIxL hs7 (L2.atI_nat exf) ?_;walk_at "W";refine⟨3,rfl,uf,_,rfl,SqT.of huf7,cut3n,fun x1 h1=>?_⟩;rw[cut3];have a1:=Same.new (o:=.tup [.str "step",.int cf,.int bf]) h1;walk_at "W";refine⟨by show(1:Nat)<=sizeLine;decide,fun x2 h2=>?_⟩
 have a2:=Same.new (o:=.tup [.ref tw]) h2;walk_at "W";refine⟨x1,x2,_,_,rfl,rfl,a2 _ _ upd_same,upd_same,by show(4:Nat)<=sizeLine;decide,fun x3 H8 a3 h3=>?_⟩
 have s8:=(a1.trans a2).trans a3;walk_at "W";refine wPutIn (s8 _ _ hs7) hfll (by omega) fun lg H9 hlg0 hlg s9=>?_
 have s79:=s8.trans s9;have tk79:=Same.tk s79;have tg9:ThVs H9 (xs.set fl (.ref x3)) ((walkT 0 ss).set fl (.step cf bf (Qf.filter fun q=>decide (q≠p0)))):=
  paired_setP ⟨x3,tw,as,rfl,s9 _ _ h3,tk79 _ _ htw7,pr7.keep tk79⟩ fl (ht7.keep tk79)
 have J9:Ft p s st uh qa uf qf tw lg xs pa pf as (xs.set fl (.ref x3)) (walkT 0 ss) ((walkT 0 ss).set fl (.step cf bf (Qf.filter fun q=>decide (q≠p0)))) Qa Qf (Qf.filter fun q=>decide (q≠p0)) p0 cf bf H9:=
  ⟨P7.same s79,s79 _ _ hs7,ht7.keep tk79,s79 _ _ hst7,s79 _ _ huh7,s79 _ _ hqa7,pra7.keep tk79,s79 _ _ huf7,s79 _ _ hqf7,prf7.keep tk79,tk79 _ _ htw7,pr7.keep tk79,hlg,tg9⟩
 have K09:KeepBut p H H9:=K07.trans (SW.Same.but s79);clear s79 tk79 s9 s8 a1 a2 a3 h1 h2 h3 hs7 ht7 hst7 huh7 hqa7 pra7 huf7 hqf7 prf7 htw7 pr7 P7 K07 hlg0 hlg tg9;obtain⟨il,eil⟩:∃ il,stN (walkT 0 ss)=il++[lastI 0 ss]:=List.getLast?_eq_some_iff.mp hlast;walk_at "W";refine wIxL J9.hst (v:=V.int (lastI 0 ss:Nat)) (by rw[eil,List.map_append];exact L2.atI_last _ _) ?_
 walk_at "W";refine⟨by show(2:Nat)<=sizeLine;decide,fun u1 hu1=>?_⟩
 have a1:=Same.new (o:=.tup [.ref lg,.int (lastI 0 ss:Nat)]) hu1;have e1:upd H9 u1 (.tup [.ref lg,.int (lastI 0 ss:Nat)]) u1=some (.tup [.ref lg,.int (lastI 0 ss:Nat)]):=upd_same;generalize upd H9 u1 (.tup [.ref lg,.int (lastI 0 ss:Nat)])=H10 at *;have J10:=J9.same a1;have K010:KeepBut p H H10:=K09.trans (SW.Same.but a1);have B1:∀ q,H10 q=none->BadV A q H10 (.ref u1):=fun q hq=>⟨u1,lg,_,_,some (lastI 0 ss),rfl,ne_of_none J10.hlg hq,e1,J10.hlg,J10.tg,wk.gone hF hin,by rw[List.length_set];omega,fit_set hfit fl (Nat.le_trans (List.length_filter_le _ _) hfQ)⟩
 clear J9 K09 a1 hu1 e1;have haQ:Qa.length<=1000:=hfit _ (List.mem_of_getElem? hT);have hpal:pa.length=Qa.length:=paired_len J10.pra;walk_at "W";refine⟨by show(2:Nat)<=sizeLine;decide,fun t1 h1=>?_⟩
 have a1:=Same.new (o:=.tup [.int 50,.int 0]) h1;walk_at "W";refine⟨by show(1:Nat)<=sizeLine;decide,fun t2 h2=>?_⟩
 have a2:=Same.new (o:=.tup [.ref t1]) h2;walk_at "W";refine⟨qa,t2,_,_,rfl,rfl,(a1.trans a2) _ _ J10.hqa,upd_same,by rw[hpal];show _+1<=_;omega,fun t3 H11 a3 h3=>?_⟩
 walk_at "W";refine⟨by show(4:Nat)<=sizeLine;decide,fun t4 h4=>?_⟩
 have a4:=Same.new (o:=.tup [.str "step",.int c,.int b,.ref t3]) h4;have s14:=((a1.trans a2).trans a3).trans a4;walk_at "W";refine wPutIn (s14 _ _ J10.hs) hatl (by omega) fun lb H12 hlb0 hlb s12=>?_
 have s15:=s14.trans s12;have J12:=J10.same s15;have t12:ThVs H12 (xs.set at_ (.ref t4)) ((walkT 0 ss).set at_ (.step c b (Qa++[(50,0)]))):=
  paired_setP ⟨t4,t3,_,rfl,s12 _ _ upd_same,s12 _ _ (a4 _ _ h3),paired_append (.cons ⟨t1,rfl,s12 _ _ (a4 _ _ (a3 _ _ (a2 _ _ upd_same)))⟩ .nil) J12.pra⟩ at_ J12.ht
 have K012:KeepBut p H H12:=K010.trans (SW.Same.but s15);have B12:∀ q,H12 q=none->BadV A q H12 (.ref u1):=fun q hq=>((B1 q (by
  cases e:H10 q with
  | none=>rfl
  | some o=>rw[s15 _ _ e]at hq;cases hq)).same s15)
 clear B1 K010 J10 s15 s14 s12 a1 a2 a3 a4 h1 h2 h3 h4 hlb0;walk_at "W";refine⟨by show(2:Nat)<=sizeLine;decide,fun u2 hu2=>?_⟩
 have a1:=Same.new (o:=.tup [.ref lb,.int (at_:Nat)]) hu2;walk_at "W";refine⟨by show(2:Nat)<=sizeLine;decide,fun q hq=>?_⟩
 have a2:=Same.new (o:=.lst [.ref u1,.ref u2]) hq;have a12:=a1.trans a2;have J13:=J12.same a12;have K013:KeepBut p H (upd (upd H12 u2 (.tup [.ref lb,.int (at_:Nat)])) q (.lst [.ref u1,.ref u2])):=K012.trans (SW.Same.but a12);have hq12:H12 q=none:=none_of hq;have nqp:q≠p:=(J12.P.ne0 hq12).symm;have nqs:q≠s:=(ne_of_none J12.hs hq12).symm;have nqt:q≠st:=(ne_of_none J12.hst hq12).symm;have nqg:q≠lg:=(ne_of_none J12.hlg hq12).symm;have hq0:H q=none:=KeepBut.back K012 J12.P hq12;have hB:∀ y∈[V.ref u1,V.ref u2],BadV A q (upd (upd H12 u2 (.tup [.ref lb,.int (at_:Nat)])) q (.lst [.ref u1,.ref u2])) y:=fun y hy=>by
  rcases List.mem_cons.mp hy with z | z
  · rw[z];exact(B12 q hq12).same a12
  cases List.mem_singleton.mp z;exact⟨u2,lb,_,_,some at_,rfl,ne_of_none hlb hq12,a2 _ _ upd_same,a12 _ _ hlb,t12.keep (Same.tk a12),wk.fifty hT n50,by rw[List.length_set];omega,fit_set hfit at_ (by show(Qa++[(50,0)]).length<=1000;rw[List.length_append];have:Qa.length<=9:=fewQ _ (List.mem_of_getElem? hT);show _+1<=1000;omega)⟩
 have hqq:upd (upd H12 u2 (.tup [.ref lb,.int (at_:Nat)])) q (.lst [.ref u1,.ref u2]) q=some (.lst [.ref u1,.ref u2]):=upd_same;generalize upd (upd H12 u2 (.tup [.ref lb,.int (at_:Nat)])) q (.lst [.ref u1,.ref u2])=H13 at *;clear a1 a2 a12 B12 hlb t12 K012 J12 hq hq12 hu2;have S13:Sm H A q [V.ref u1,V.ref u2] p s st uh qa uf qf tw lg xs pa pf as (xs.set fl (.ref x3)) (walkT 0 ss) ((walkT 0 ss).set fl (.step cf bf (Qf.filter fun q=>decide (q≠p0)))) Qa Qf (Qf.filter fun q=>decide (q≠p0)) p0 cf bf H13:=⟨J13,K013,hqq,hB,nqp,nqs,nqt,nqg,hq0,by show(2:Nat)<=20;decide⟩
 clear J13 K013 hqq hB nqp nqs nqt nqg hq0;have hfQ9:Qf.length<=9:=fewQ _ (List.mem_of_getElem? hF);have haQ9:Qa.length<=9:=fewQ _ (List.mem_of_getElem? hT);walk_at "W";refine wBM ?_;walk_at "W";refine⟨.inl ⟨rfl,_,SqL.of S13.hq⟩,?_⟩;walk_at "W";refine wIxL S13.J.hs (L2.atI_nat exf) ?_;have g1:=S13.J.huf;walk_at "W";refine⟨3,rfl,uf,_,rfl,SqT.of g1,cut3n,fun x1 h1=>?_⟩;rw[cut3];have a1:=Same.new (o:=.tup [.str "step",.int cf,.int bf]) h1;have g2:=a1 _ _ g1;have g3:=a1 _ _ S13.J.hs;walk_at "W";refine wIxL g3 (L2.atI_nat exf) ?_;walk_at "W";refine⟨by show(1:Nat)<=sizeLine;decide,fun x2 h2=>?_⟩
 have a2:=Same.new (o:=.tup [.ref uh]) h2;have hpfl:pf.length=Qf.length:=paired_len S13.J.prf;refine⟨qf,x2,_,_,rfl,rfl,(a1.trans a2) _ _ S13.J.hqf,upd_same,by rw[hpfl];show _+1<=_;omega,fun x3' H14 a3 h3=>?_⟩
 walk_at "W";refine⟨by show(1:Nat)<=sizeLine;decide,fun x4 h4=>?_⟩
 have a4:=Same.new (o:=.tup [.ref x3']) h4;walk_at "W";refine⟨x1,x4,_,_,rfl,rfl,a4 _ _ (a3 _ _ (a2 _ _ upd_same)),upd_same,by show(4:Nat)<=sizeLine;decide,fun x5 H15 a5 h5=>?_⟩
 have s15:=(((a1.trans a2).trans a3).trans a4).trans a5;have S15:=S13.same s15;walk_at "W";refine wPutIn S15.J.hs hfll (by omega) fun lb H16 hlb0 hlb s16=>?_
 have S16:=S15.same s16;have t16:ThVs H16 (xs.set fl (.ref x5)) ((walkT 0 ss).set fl (.step cf bf (Qf++[p0]))):=
  paired_setP ⟨x5,x3',_,rfl,s16 _ _ h5,s16 _ _ (a5 _ _ (a4 _ _ h3)),paired_append (.cons ⟨uh,rfl,S16.J.huh⟩ .nil) S16.J.prf⟩ fl S16.J.ht
 have nlb:lb≠q:=(ne_of_none S15.hq hlb0).symm;clear S13 S15 s15 s16 a1 a2 a3 a4 a5 h1 h2 h3 h4 h5 g1 g2 g3 hlb0;walk_at "W";refine⟨by show(2:Nat)<=sizeLine;decide,fun u3 hu3=>?_⟩
 have a1:=Same.new (o:=.tup [.ref lb,.int (fl:Nat)]) hu3;have S17:=S16.same a1;have b17:=S17.bad (u:=u3) (o:=some fl) (a1 _ _ hlb) nlb upd_same (t16.keep (Same.tk a1)) (wk.twice hF hin) (by rw[List.length_set];omega) (fit_set hfit fl (by show(Qf++[p0]).length<=1000;rw[List.length_append];show _+1<=1000;omega))
 generalize upd H16 u3 (.tup [.ref lb,.int (fl:Nat)])=H17 at *;clear S16 a1 hu3 hlb t16 nlb;walk_at "W";refine⟨q,_,_,rfl,rfl,S17.hq,by show(2:Nat) < sizeLine;decide,?_⟩
 have S18:=S17.add b17 (by show(2:Nat)<=19;decide)
 generalize upd H17 q (.lst ([V.ref u1,V.ref u2]++[V.ref u3]))=H18 at *;clear S17 b17;rename_i N hN;refine show N [some (.ref p),some (.ref s),some (.ref st),some (.ref d),some (.int (at_:Nat)),some (.str "step"),some (.int c),some (.int b),some (.ref qa),some (.ref uh),some (.int (fl:Nat)),some (.ref tw),some (.ref lg),some (.ref q),none,none,none] H18 from ?_;refine SW.wGo hN ?_;have g1:=S18.J.huh;walk_at "W";refine⟨by show(2:Nat)<=sizeLine;decide,fun z1 hz1=>?_⟩
 have a1:=Same.new (o:=.lst [.int 1,.int (-1)]) hz1;have g2:=a1 _ _ g1;walk_at "W";obtain⟨dl,edl,hdl⟩:∃ dl:Int,atI [V.int 1,V.int (-1)] (if decide (0 < p0.2)=true then 1 else 0)=some (V.int dl)/\dl≠0:=by
  by_cases hz:0 < p0.2
  · rw[decide_eq_true hz,if_pos rfl]
    exact⟨-1,rfl,by decide⟩
  rw[decide_eq_false hz,if_neg Bool.false_ne_true];exact⟨1,rfl,by decide⟩
 refine wIxL upd_same edl ?_;walk_at "W";refine⟨by show(2:Nat)<=sizeLine;decide,fun z2 hz2=>?_⟩
 have a2:=Same.new (o:=.tup [.int p0.1,.int (p0.2+dl)]) hz2;walk_at "W";refine⟨by show(1:Nat)<=sizeLine;decide,fun z3 hz3=>?_⟩
 have a3:=Same.new (o:=.tup [.ref z2]) hz3;have hasl:as.length=(Qf.filter fun q=>decide (q≠p0)).length:=paired_len S18.J.prw;have hwQ9:(Qf.filter fun q=>decide (q≠p0)).length<=9:=Nat.le_trans (List.length_filter_le _ _) hfQ9;walk_at "W";refine⟨tw,z3,_,_,rfl,rfl,((a1.trans a2).trans a3) _ _ S18.J.htw,upd_same,by rw[hasl];show _+1<=_;omega,fun ot H19 a4 hot=>?_⟩
 have e2:H19 z2=some (.tup [.int p0.1,.int (p0.2+dl)]):=a4 _ _ (a3 _ _ upd_same);have S19:=S18.same (((a1.trans a2).trans a3).trans a4);have pr19:Prs H19 (as++[.ref z2]) ((Qf.filter fun q=>decide (q≠p0))++[(p0.1,p0.2+dl)]):=paired_append (.cons ⟨z2,rfl,e2⟩ .nil) S19.J.prw;clear a1 a2 a3 a4 hz1 hz2 hz3 g1 g2 S18 e2;have g1:=S19.J.huf;walk_at "W";refine wBM ?_;walk_at "W";refine⟨.inl ⟨rfl,_,SqL.of S19.hq⟩,?_⟩;walk_at "W";refine wIxL S19.J.hs (L2.atI_nat exf) ?_;walk_at "W";refine⟨3,rfl,uf,_,rfl,SqT.of g1,cut3n,fun x1 h1=>?_⟩;rw[cut3];have a1:=Same.new (o:=.tup [.str "step",.int cf,.int bf]) h1;walk_at "W";refine⟨by show(1:Nat)<=sizeLine;decide,fun x2 h2=>?_⟩
 have a2:=Same.new (o:=.tup [.ref ot]) h2;walk_at "W";refine⟨x1,x2,_,_,rfl,rfl,a2 _ _ upd_same,upd_same,by show(4:Nat)<=sizeLine;decide,fun x5 H20 a3 h5=>?_⟩
 have s20:=(a1.trans a2).trans a3;have S20:=S19.same s20;walk_at "W";refine wPutIn S20.J.hs hfll (by omega) fun lb H21 hlb0 hlb s21=>?_
 have S21:=S20.same s21;have t21:ThVs H21 (xs.set fl (.ref x5)) ((walkT 0 ss).set fl (.step cf bf ((Qf.filter fun q=>decide (q≠p0))++[(p0.1,p0.2+dl)]))):=
  paired_setP ⟨x5,ot,_,rfl,s21 _ _ h5,(s20.trans s21) _ _ hot,pr19.keep (Same.tk (s20.trans s21))⟩ fl S21.J.ht
 have nlb:lb≠q:=(ne_of_none S20.hq hlb0).symm;clear S19 S20 s20 s21 a1 a2 a3 h1 h2 h5 g1 hlb0 pr19;walk_at "W";refine⟨by show(2:Nat)<=sizeLine;decide,fun u4 hu4=>?_⟩
 have a1:=Same.new (o:=.tup [.ref lb,.int (fl:Nat)]) hu4;have S22:=S21.same a1;have b22:=S22.bad (u:=u4) (o:=some fl) (a1 _ _ hlb) nlb upd_same (t21.keep (Same.tk a1)) (wk.other hF hin (show p0.2+dl≠p0.2 by omega) _) (by rw[List.length_set];omega) (fit_set hfit fl (by show(_++[_]).length<=1000;rw[List.length_append];show _+1<=1000;omega))
 generalize upd H21 u4 (.tup [.ref lb,.int (fl:Nat)])=H22 at *;clear S21 a1 hu4 hlb t21 nlb;walk_at "W";refine⟨q,_,_,rfl,rfl,S22.hq,by show(3:Nat) < sizeLine;decide,?_⟩
 have S23:=S22.add b22 (by show(3:Nat)<=19;decide)
 generalize upd H22 q (.lst ([V.ref u1,V.ref u2]++[V.ref u3]++[V.ref u4]))=H23 at *;clear S22 b22;walk_at "W";refine wBM ?_;walk_at "W";refine⟨.inl ⟨rfl,_,SqL.of S23.hq⟩,?_⟩;walk_at "W";refine⟨by show(4:Nat)<=sizeLine;decide,fun x1 h1=>?_⟩
 have a1:=Same.new (o:=.tup [.str "step",.int (c+1),.int b,.ref qa]) h1;have S24:=S23.same a1;walk_at "W";refine wPutIn S24.J.hs hatl (by omega) fun lb H25 hlb0 hlb s25=>?_
 have S25:=S24.same s25;have t25:ThVs H25 (xs.set at_ (.ref x1)) ((walkT 0 ss).set at_ (.step (c+1) b Qa)):=
  paired_setP ⟨x1,qa,_,rfl,s25 _ _ upd_same,S25.J.hqa,S25.J.pra⟩ at_ S25.J.ht
 have nlb:lb≠q:=(ne_of_none S24.hq hlb0).symm;clear S23 S24 s25 a1 h1 hlb0;walk_at "W";refine⟨by show(2:Nat)<=sizeLine;decide,fun u5 hu5=>?_⟩
 have a1:=Same.new (o:=.tup [.ref lb,.int (at_:Nat)]) hu5;have S26:=S25.same a1;have b26:=S26.bad (u:=u5) (o:=some at_) (a1 _ _ hlb) nlb upd_same (t25.keep (Same.tk a1)) (wk.cursor hT) (by rw[List.length_set];omega) (fit_set hfit at_ (by show Qa.length<=1000;omega))
 generalize upd H25 u5 (.tup [.ref lb,.int (at_:Nat)])=H26 at *;clear S25 a1 hu5 hlb t25 nlb;walk_at "W";refine⟨q,_,_,rfl,rfl,S26.hq,by show(4:Nat) < sizeLine;decide,?_⟩
 have S27:=S26.add b26 (by show(4:Nat)<=19;decide)
 generalize upd H26 q (.lst ([V.ref u1,V.ref u2]++[V.ref u3]++[V.ref u4]++[V.ref u5]))=H27 at *;clear S26 b26;walk_at "W";refine wBM ?_;walk_at "W";refine⟨.inl ⟨rfl,_,SqL.of S27.hq⟩,?_⟩;obtain⟨sg0,ss1,ess⟩:∃ sg0 ss1,ss=sg0::ss1:=by
  cases ss with
  | nil=>exact absurd rfl hss
  | cons a b=>exact⟨a,b,rfl⟩
 have hT0:(walkT 0 ss)[0]?=some (.step sg0.c sg0.b sg0.Q):=by rw[ess];rfl
 obtain⟨st1,est⟩:∃ st1,stN (walkT 0 ss)=0::st1:=by rw[ess,stN_walk];exact⟨_,rfl⟩
 have hx0l:0 < xs.length:=by rw[hxl];exact Wk.lt hT0
 have ex0:xs[0]?=some xs[0]:=List.getElem?_eq_getElem hx0l;obtain⟨_,e1,hv0⟩:=paired_get S27.J.ht ex0;rw[hT0]at e1;cases e1;obtain⟨uz,qz,pz,evz,huz,hqz,prz⟩:=hv0;rw[evz]at ex0;have st0:∀ H':Hp,H' st=some (.lst ((stN (walkT 0 ss)).map fun n:Nat=>V.int (n:Int)))->H' st=some (.lst (V.int 0::st1.map fun n:Nat=>V.int (n:Int))):=fun H' e=>by
  rw[est]at e;exact e
 have g1:=st0 _ S27.J.hst;walk_at "W";refine wIxL g1 (L2.atI_nat (j:=0) rfl) ?_;walk_at "W";refine wIxL S27.J.hs (L2.atI_nat (j:=0) ex0) ?_;walk_at "W";refine⟨by show(4:Nat)<=sizeLine;decide,fun x1 h1=>?_⟩
 have a1:=Same.new (o:=.tup [.str "step",.int 0,.int 65536,.ref qz]) h1;have S28:=S27.same a1;walk_at "W";refine wPutIn (i:=0) S28.J.hs hx0l (by omega) fun lb H29 hlb0 hlb s29=>?_
 have S29:=S28.same s29;have t29:ThVs H29 (xs.set 0 (.ref x1)) ((walkT 0 ss).set 0 (.step 0 65536 sg0.Q)):=
  paired_setP ⟨x1,qz,_,rfl,s29 _ _ upd_same,(a1.trans s29) _ _ hqz,prz.keep (Same.tk (a1.trans s29))⟩ 0 S29.J.ht
 have nlb:lb≠q:=(ne_of_none S28.hq hlb0).symm;clear S27 S28 s29 a1 h1 hlb0 huz hqz prz g1;walk_at "W";refine⟨by show(2:Nat)<=sizeLine;decide,fun u6 hu6=>?_⟩
 have a1:=Same.new (o:=.tup [.ref lb,.int (0:Nat)]) hu6;have S30:=S29.same a1;have b30:=S30.bad (u:=u6) (o:=some 0) (a1 _ _ hlb) nlb upd_same (t29.keep (Same.tk a1)) (wk.far hT0 _ _) (by rw[List.length_set];omega) (fit_set hfit 0 (show sg0.Q.length<=1000 from hfit (.step sg0.c sg0.b sg0.Q) (List.mem_of_getElem? hT0)))
 generalize upd H29 u6 (.tup [.ref lb,.int (0:Nat)])=H30 at *;clear S29 a1 hu6 hlb t29 nlb;walk_at "W";refine⟨q,_,_,rfl,rfl,S30.hq,by show(5:Nat) < sizeLine;decide,?_⟩
 have S31:=S30.add b30 (by show(5:Nat)<=19;decide)
 generalize upd H30 q (.lst ([V.ref u1,V.ref u2]++[V.ref u3]++[V.ref u4]++[V.ref u5]++[V.ref u6]))=H31 at *;clear S30 b30;rename_i N1 hN1;refine show N1 [some (.ref p),some (.ref s),some (.ref st),some (.ref d),some (.int (at_:Nat)),some (.str "step"),some (.int c),some (.int b),some (.ref qa),some (.ref uh),some (.int (fl:Nat)),some (.ref tw),some (.ref lg),some (.ref q),some (.ref ot),none,none] H31 from ?_;refine SW.wGo hN1 ?_;have g1:=st0 _ S31.J.hst;walk_at "W";refine wIxL g1 (L2.atI_nat (j:=0) rfl) ?_;walk_at "W";rename_i N2 hN2;have rest:∀ ys H',Sm H A q ys p s st uh qa uf qf tw lg xs pa pf as (xs.set fl (.ref x3)) (walkT 0 ss) ((walkT 0 ss).set fl (.step cf bf (Qf.filter fun q=>decide (q≠p0)))) Qa Qf (Qf.filter fun q=>decide (q≠p0)) p0 cf bf H'->ys.length<=8->N2 [some (.ref p),some (.ref s),some (.ref st),some (.ref d),some (.int (at_:Nat)),some (.str "step"),some (.int c),some (.int b),some (.ref qa),some (.ref uh),some (.int (fl:Nat)),some (.ref tw),some (.ref lg),some (.ref q),some (.ref ot),none,none] H':=by
  intro ys H32 S32 yl;refine SW.wGo hN2 ?_;clear S31 g1;have g1:=S32.J.huh;walk_at "W";refine⟨by show(3:Nat)<=sizeLine;decide,fun c1 hc1=>?_⟩
  have a1:=Same.new (o:=.tup [.str "cut",.int p0.1,.int p0.2]) hc1;have ec1:upd H32 c1 (.tup [.str "cut",.int p0.1,.int p0.2]) c1=some (.tup [.str "cut",.int p0.1,.int p0.2]):=upd_same;generalize upd H32 c1 (.tup [.str "cut",.int p0.1,.int p0.2])=H33 at *;walk_at "W";refine⟨by show(1:Nat)<=sizeLine;decide,fun cu hcu=>?_⟩
  have a2:=Same.new (o:=.lst [.ref c1]) hcu;have ecu:upd H33 cu (.lst [.ref c1]) cu=some (.lst [.ref c1]):=upd_same;generalize upd H33 cu (.lst [.ref c1])=H34 at *;have g2:=(a1.trans a2) _ _ g1;walk_at "W";refine⟨by show(4:Nat)<=sizeLine;decide,fun c3 hc3=>?_⟩
  have a3:=Same.new (o:=.tup [.str "put",.int p0.1,.int 5,.non]) hc3;have ec3:upd H34 c3 (.tup [.str "put",.int p0.1,.int 5,.non]) c3=some (.tup [.str "put",.int p0.1,.int 5,.non]):=upd_same;generalize upd H34 c3 (.tup [.str "put",.int p0.1,.int 5,.non])=H35 at *;walk_at "W";refine⟨by show(1:Nat)<=sizeLine;decide,fun pu hpu=>?_⟩
  have a4:=Same.new (o:=.lst [.ref c3]) hpu;have epu:upd H35 pu (.lst [.ref c3]) pu=some (.lst [.ref c3]):=upd_same;generalize upd H35 pu (.lst [.ref c3])=H36 at *;have S36:=S32.same (((a1.trans a2).trans a3).trans a4);have ec1:=a4 _ _ (a3 _ _ (a2 _ _ ec1));have ecu:=a4 _ _ (a3 _ _ ecu);have ec3:=a4 _ _ ec3;clear a1 a2 a3 a4 g1 g2 S32 hc1 hcu hc3 hpu;have g1:=st0 _ S36.J.hst;walk_at "W";refine wIxL g1 (L2.atI_nat (j:=0) rfl) ?_;walk_at "W";rename_i N3 hN3;have last:∀ q ys H',Sm H A q ys p s st uh qa uf qf tw lg xs pa pf as (xs.set fl (.ref x3)) (walkT 0 ss) ((walkT 0 ss).set fl (.step cf bf (Qf.filter fun q=>decide (q≠p0)))) Qa Qf (Qf.filter fun q=>decide (q≠p0)) p0 cf bf H'->ys.length<=10->N3 [some (.ref p),some (.ref s),some (.ref st),some (.ref d),some (.int (at_:Nat)),some (.str "step"),some (.int c),some (.int b),some (.ref qa),some (.ref uh),some (.int (fl:Nat)),some (.ref tw),some (.ref lg),some (.ref q),some (.ref ot),some (.ref cu),some (.ref pu)] H':=by
   clear S36 g1 ec1 ecu ec3 epu;intro q ys H37 S37 yl;refine SW.wGo hN3 ?_;walk_at "W";rename_i N4 hN4;have fin:∀ ys H',Sm H A q ys p s st uh qa uf qf tw lg xs pa pf as (xs.set fl (.ref x3)) (walkT 0 ss) ((walkT 0 ss).set fl (.step cf bf (Qf.filter fun q=>decide (q≠p0)))) Qa Qf (Qf.filter fun q=>decide (q≠p0)) p0 cf bf H'->N4 [some (.ref p),some (.ref s),some (.ref st),some (.ref d),some (.int (at_:Nat)),some (.str "step"),some (.int c),some (.int b),some (.ref qa),some (.ref uh),some (.int (fl:Nat)),some (.ref tw),some (.ref lg),some (.ref q),some (.ref ot),some (.ref cu),some (.ref pu)] H':=by
    intro ys H' S';refine SW.wGo hN4 ?_;walk_at "W";exact k q ys H' S'.hq S'.B S'.J.P S'.k S'.h0
   clear hN4;by_cases hz:at_=fl
   · refine iteNS (by rw[hz]) ?_
     walk_at "W";exact fin ys H37 S37
   refine iteF2 (fun z=>hz (by injection z with z;omega)) ?_
   have hnp:p0∉Qa:=fun z=>hz (Wk_one wk hT hF z hin);walk_at "W";refine wBM ?_;walk_at "W";refine⟨.inl ⟨rfl,_,SqL.of S37.hq⟩,?_⟩;walk_at "W";refine⟨by show(1:Nat)<=sizeLine;decide,fun z1 hz1=>?_⟩
   have a1:=Same.new (o:=.tup [.ref uh]) hz1;walk_at "W";refine⟨qa,z1,_,_,rfl,rfl,a1 _ _ S37.J.hqa,upd_same,by rw[hpal];show _+1<=_;omega,fun z2 H38 a2 h2=>?_⟩
   walk_at "W";refine⟨by show(4:Nat)<=sizeLine;decide,fun z3 hz3=>?_⟩
   have a3:=Same.new (o:=.tup [.str "step",.int c,.int b,.ref z2]) hz3;have S39:=S37.same ((a1.trans a2).trans a3);walk_at "W";refine wPutIn S39.J.hs hatl (by omega) fun lb H40 hlb0 hlb s40=>?_
   have S40:=S39.same s40;have t40:ThVs H40 (xs.set at_ (.ref z3)) ((walkT 0 ss).set at_ (.step c b (Qa++[p0]))):=
    paired_setP ⟨z3,z2,_,rfl,s40 _ _ upd_same,s40 _ _ (a3 _ _ h2),paired_append (.cons ⟨uh,rfl,S40.J.huh⟩ .nil) S40.J.pra⟩ at_ S40.J.ht
   have nlb:lb≠q:=(ne_of_none S39.hq hlb0).symm;clear S37 S39 s40 a1 a2 a3 h2 hz1 hz3 hlb0;walk_at "W";refine⟨by show(2:Nat)<=sizeLine;decide,fun u8 hu8=>?_⟩
   have a1:=Same.new (o:=.tup [.ref lb,.non]) hu8;have S41:=S40.same a1;have b41:=S41.bad (u:=u8) (o:=none) (a1 _ _ hlb) nlb upd_same (t40.keep (Same.tk a1)) (wk.told hT hp0 hnp) (by rw[List.length_set];omega) (fit_set hfit at_ (by show(Qa++[p0]).length<=1000;rw[List.length_append];show _+1<=1000;omega))
   generalize upd H40 u8 (.tup [.ref lb,.non])=H41 at *;clear S40 a1 hu8 hlb t40 nlb;walk_at "W";refine⟨q,_,_,rfl,rfl,S41.hq,by omega,?_⟩
   exact fin _ _ (S41.add b41 (by omega))
  clear hN3;by_cases hz:fl=0
  · refine iteNS (by rw[hz];rfl) ?_
    walk_at "W";exact last q ys H36 S36 (by omega)
  refine iteF2 (fun z=>hz (by injection z with z;omega)) ?_
  walk_at "W";have tg:=S36.J.tg;have hG:=fit_set hfit fl (show Fit (.step cf bf (Qf.filter fun q=>decide (q≠p0)))from Nat.le_trans (List.length_filter_le _ _) hfQ);obtain⟨gs,egs⟩:∃ gs,gs=xs.set fl (.ref x3):=⟨_,rfl⟩;obtain⟨G,eG⟩:∃ G,G=(walkT 0 ss).set fl (.step cf bf (Qf.filter fun q=>decide (q≠p0))):=⟨_,rfl⟩;have gl:gs.length=xs.length:=by rw[egs,List.length_set]
  have Gl:G.length=(walkT 0 ss).length:=by rw[eG,List.length_set]
  have fwc:=wk.wasCut hF hin hz eG;have fwp:=wk.wasPut hF hin hz eG;have hlg:=S36.J.hlg;rw[← egs,← eG]at tg;rw[← egs]at hlg;rw[← eG]at hG;refine⟨1,rfl,lg,_,rfl,SqL.of hlg,fun y1 hy1=>?_⟩;rw[show cutV gs none (some 1)=gs.take 1 from cut_le (i:=1) (by omega)]
  have a1:=Same.new (o:=.lst (gs.take 1)) hy1;have ey1:upd H36 y1 (.lst (gs.take 1)) y1=some (.lst (gs.take 1)):=upd_same;generalize upd H36 y1 (.lst (gs.take 1))=H37 at *;walk_at "W";refine⟨y1,cu,_,_,rfl,rfl,ey1,a1 _ _ ecu,by rw[List.length_take];show _+1<=_;omega,fun y2 hy2=>?_⟩
  have a2:=Same.new (o:=.lst (gs.take 1++[.ref c1])) hy2;have ey2:upd H37 y2 (.lst (gs.take 1++[.ref c1])) y2=some (.lst (gs.take 1++[.ref c1])):=upd_same;generalize upd H37 y2 (.lst (gs.take 1++[.ref c1]))=H38 at *;have a12:=a1.trans a2;walk_at "W";refine⟨1,rfl,?_⟩;walk_at "W";refine⟨lg,_,rfl,SqL.of (a12 _ _ hlg),fun y3 hy3=>?_⟩;rw[show cutV gs (some 1) none=gs.drop 1 from cut_ge (i:=1) (by omega)]
  have a3:=Same.new (o:=.lst (gs.drop 1)) hy3;have ey3:upd H38 y3 (.lst (gs.drop 1)) y3=some (.lst (gs.drop 1)):=upd_same;generalize upd H38 y3 (.lst (gs.drop 1))=H39 at *;walk_at "W";refine⟨y2,y3,_,_,rfl,rfl,a3 _ _ ey2,ey3,by rw[List.length_append,List.length_take,List.length_drop];show _+1+_<=_;omega,fun y4 hy4=>?_⟩
  have a4:=Same.new (o:=.lst (gs.take 1++[.ref c1]++gs.drop 1)) hy4;have ey4:upd H39 y4 (.lst (gs.take 1++[.ref c1]++gs.drop 1)) y4=some (.lst (gs.take 1++[.ref c1]++gs.drop 1)):=upd_same;generalize upd H39 y4 (.lst (gs.take 1++[.ref c1]++gs.drop 1))=H40 at *;have a14:=(a12.trans a3).trans a4;walk_at "W";refine⟨by show(2:Nat)<=sizeLine;decide,fun v1 hv1=>?_⟩
  have a5:=Same.new (o:=.tup [.ref y4,.non]) hv1;have ev1:upd H40 v1 (.tup [.ref y4,.non]) v1=some (.tup [.ref y4,.non]):=upd_same;generalize upd H40 v1 (.tup [.ref y4,.non])=H41 at *;have a15:=a14.trans a5;have ey4:=a5 _ _ ey4;clear a1 a2 a3 a4 a5 a14 a12 hy1 hy2 hy3 hy4 hv1 ey1 ey2 ey3;have tk41:=Same.tk a15;have t41:ThVs H41 (gs.take 1++[.ref c1]++gs.drop 1) (G.take 1++[.cut p0.1 (some p0.2)]++G.drop 1):=
   paired_append (paired_drop 1 (tg.keep tk41)) (paired_append (.cons ⟨c1,rfl,a15 _ _ ec1⟩ .nil) (paired_take 1 (tg.keep tk41)))
  have hlg1:=a15 _ _ hlg;have ecu1:=a15 _ _ ecu;have epu1:=a15 _ _ epu;have S41:=S36.same a15;walk_at "W";refine⟨1,rfl,lg,_,rfl,SqL.of hlg1,fun y1 hy1=>?_⟩;rw[show cutV gs none (some 1)=gs.take 1 from cut_le (i:=1) (by omega)]
  have a1:=Same.new (o:=.lst (gs.take 1)) hy1;have ey1:upd H41 y1 (.lst (gs.take 1)) y1=some (.lst (gs.take 1)):=upd_same;generalize upd H41 y1 (.lst (gs.take 1))=H42 at *;walk_at "W";refine⟨y1,cu,_,_,rfl,rfl,ey1,a1 _ _ ecu1,by rw[List.length_take];show _+1<=_;omega,fun y2 hy2=>?_⟩
  have a2:=Same.new (o:=.lst (gs.take 1++[.ref c1])) hy2;have ey2:upd H42 y2 (.lst (gs.take 1++[.ref c1])) y2=some (.lst (gs.take 1++[.ref c1])):=upd_same;generalize upd H42 y2 (.lst (gs.take 1++[.ref c1]))=H43 at *;have a12:=a1.trans a2;walk_at "W";refine⟨y2,pu,_,_,rfl,rfl,ey2,a12 _ _ epu1,by rw[List.length_append,List.length_take];show _+1+1<=_;omega,fun y3 hy3=>?_⟩
  have a3:=Same.new (o:=.lst (gs.take 1++[.ref c1]++[.ref c3])) hy3;have ey3:upd H43 y3 (.lst (gs.take 1++[.ref c1]++[.ref c3])) y3=some (.lst (gs.take 1++[.ref c1]++[.ref c3])):=upd_same;generalize upd H43 y3 (.lst (gs.take 1++[.ref c1]++[.ref c3]))=H44 at *;have a13:=a12.trans a3;walk_at "W";refine⟨1,rfl,?_⟩;walk_at "W";refine⟨lg,_,rfl,SqL.of (a13 _ _ hlg1),fun y4' hy4=>?_⟩;rw[show cutV gs (some 1) none=gs.drop 1 from cut_ge (i:=1) (by omega)]
  have a4:=Same.new (o:=.lst (gs.drop 1)) hy4;have ey4':upd H44 y4' (.lst (gs.drop 1)) y4'=some (.lst (gs.drop 1)):=upd_same;generalize upd H44 y4' (.lst (gs.drop 1))=H45 at *;walk_at "W";refine⟨y3,y4',_,_,rfl,rfl,a4 _ _ ey3,ey4',by rw[List.length_append,List.length_append,List.length_take,List.length_drop];show _+1+1+_<=_;omega,fun y5 hy5=>?_⟩
  have a5:=Same.new (o:=.lst (gs.take 1++[.ref c1]++[.ref c3]++gs.drop 1)) hy5;have ey5:upd H45 y5 (.lst (gs.take 1++[.ref c1]++[.ref c3]++gs.drop 1)) y5=some (.lst (gs.take 1++[.ref c1]++[.ref c3]++gs.drop 1)):=upd_same;generalize upd H45 y5 (.lst (gs.take 1++[.ref c1]++[.ref c3]++gs.drop 1))=H46 at *;walk_at "W";refine⟨by show(2:Nat)<=sizeLine;decide,fun v2 hv2=>?_⟩
  have a6:=Same.new (o:=.tup [.ref y5,.non]) hv2;have ev2:upd H46 v2 (.tup [.ref y5,.non]) v2=some (.tup [.ref y5,.non]):=upd_same;generalize upd H46 v2 (.tup [.ref y5,.non])=H47 at *;have a16:=(((a13.trans a4).trans a5).trans a6);have ey5:=a6 _ _ ey5;have tk47:=Same.tk (a15.trans a16);have t47:ThVs H47 (gs.take 1++[.ref c1]++[.ref c3]++gs.drop 1) (G.take 1++[.cut p0.1 (some p0.2)]++[.put p0.1 5 none]++G.drop 1):=
   paired_append (paired_drop 1 (tg.keep tk47)) (paired_append (.cons ⟨c3,rfl,tk47 _ _ ec3⟩ .nil) (paired_append (.cons ⟨c1,rfl,tk47 _ _ ec1⟩ .nil) (paired_take 1 (tg.keep tk47))))
  have ey4:=a16 _ _ ey4;have ev1:=a16 _ _ ev1;have t41:=t41.keep (Same.tk a16);have S47:=S41.same a16;clear a1 a2 a3 a4 a5 a6 a12 a13 a15 a16 hy1 hy2 hy3 hy4 hy5 hv2 ey1 ey2 ey3 ey4' tk41 tk47 S36 S41 hlg hlg1 ecu ecu1 epu epu1 g1 tg ec1 ec3;walk_at "W";refine⟨by show(2:Nat)<=sizeLine;decide,fun w1 hw1=>?_⟩
  have a1:=Same.new (o:=.lst [.ref v1,.ref v2]) hw1;walk_at "W";have S48:=S47.same a1;refine⟨q,w1,_,_,rfl,rfl,S48.hq,upd_same,by show ys.length+2<=_;omega,fun q2 hq2=>?_⟩
  have a2:=Same.new (o:=.lst (ys++[.ref v1,.ref v2])) hq2;have a12:=a1.trans a2;have S49:=S48.same a2;have hq47:H47 q2=none:=none_of hq2;have f1:∀ t∈G.take 1,Fit t:=fun t h=>hG t (List.mem_of_mem_take h);have f2:∀ t∈G.drop 1,Fit t:=fun t h=>hG t (List.mem_of_mem_drop h);have l1:(G.take 1).length<=1:=List.length_take_le _ _;have l2:(G.drop 1).length<=24:=by rw[List.length_drop];omega
  rw[show List.take 1 G++[Thing.cut p0.1 (some p0.2),Thing.put p0.1 5 none]++List.drop 1 G=G.take 1++[.cut p0.1 (some p0.2)]++[.put p0.1 5 none]++G.drop 1 by simp only[List.append_assoc,List.cons_append,List.nil_append]]at fwp
  have b1:BadV A q2 (upd (upd H47 w1 (.lst [.ref v1,.ref v2])) q2 (.lst (ys++[.ref v1,.ref v2]))) (.ref v1):=
   ⟨v1,y4,_,_,none,rfl,ne_of_none ey4 hq47,a12 _ _ ev1,a12 _ _ ey4,t41.keep (Same.tk a12),fwc,by rw[List.length_append,List.length_append];show _+1+_<=40;omega,fit_apps (fit_apps f1 (fit_app (fun _ h=>(List.not_mem_nil h).elim) trivial)) f2⟩
  have b2:BadV A q2 (upd (upd H47 w1 (.lst [.ref v1,.ref v2])) q2 (.lst (ys++[.ref v1,.ref v2]))) (.ref v2):=
   ⟨v2,y5,_,_,none,rfl,ne_of_none ey5 hq47,a12 _ _ ev2,a12 _ _ ey5,t47.keep (Same.tk a12),fwp,by rw[List.length_append,List.length_append,List.length_append];show _+1+1+_<=40;omega,fit_apps (fit_app (fit_app f1 trivial) trivial) f2⟩
  refine last q2 _ _ ⟨S49.J,S49.k,upd_same,fun y hy=>?_,(S47.J.P.ne0 hq47).symm,(ne_of_none S47.J.hs hq47).symm,(ne_of_none S47.J.hst hq47).symm,(ne_of_none S47.J.hlg hq47).symm,KeepBut.back S47.k S47.J.P hq47,by show(ys++_).length<=20;rw[List.length_append];show ys.length+2<=20;omega⟩ (by show(ys++_).length<=10;rw[List.length_append];show ys.length+2<=10;omega)
  rcases List.mem_append.mp hy with z | z
  · exact((S47.B y z).to hq47).same a12
  rcases List.mem_cons.mp z with z | z
  · rw[z];exact b1
  cases List.mem_singleton.mp z;exact b2
 clear hN2;by_cases hz:at_=0
 · refine iteNS (by rw[hz];rfl) ?_
   walk_at "W";exact rest _ H31 S31 (by show 6<=8;decide)
 refine iteF2 (fun z=>hz (by injection z with z;omega)) ?_
 clear g1;walk_at "W";refine wBM ?_;walk_at "W";refine⟨.inl ⟨rfl,_,SqL.of S31.hq⟩,?_⟩;walk_at "W";refine⟨by show(4:Nat)<=sizeLine;decide,fun x1 h1=>?_⟩
 have a1:=Same.new (o:=.tup [.str "step",.int c,.int c,.ref qa]) h1;have S32:=S31.same a1;walk_at "W";refine wPutIn S32.J.hs hatl (by omega) fun lb H33 hlb0 hlb s33=>?_
 have S33:=S32.same s33;have t33:ThVs H33 (xs.set at_ (.ref x1)) ((walkT 0 ss).set at_ (.step c c Qa)):=
  paired_setP ⟨x1,qa,_,rfl,s33 _ _ upd_same,S33.J.hqa,S33.J.pra⟩ at_ S33.J.ht
 have nlb:lb≠q:=(ne_of_none S32.hq hlb0).symm;clear S31 S32 s33 a1 h1 hlb0;walk_at "W";refine⟨by show(2:Nat)<=sizeLine;decide,fun u7 hu7=>?_⟩
 have a1:=Same.new (o:=.tup [.ref lb,.int (at_:Nat)]) hu7;have S34:=S33.same a1;have b34:=S34.bad (u:=u7) (o:=some at_) (a1 _ _ hlb) nlb upd_same (t33.keep (Same.tk a1)) (wk.behind hT hz) (by rw[List.length_set];omega) (fit_set hfit at_ (by show Qa.length<=1000;omega))
 generalize upd H33 u7 (.tup [.ref lb,.int (at_:Nat)])=H34 at *;clear S33 a1 hu7 hlb t33 nlb;walk_at "W";refine⟨q,_,_,rfl,rfl,S34.hq,by show(6:Nat) < sizeLine;decide,?_⟩
 exact rest _ _ (S34.add b34 (by show(6:Nat)<=19;decide)) (by show 7<=8;decide)
theorem low_bg{A:List Thing}{r:MRow}{n:Nat}(h:Bg A r n)(hn:n<=9):Low r:=fun p hp=>by
 have:p.1∈r.map (·.1):=List.mem_map_of_mem hp;rw[h.ks]at this;obtain⟨k,hk,e⟩:=List.mem_map.mp this;have hk:=List.mem_range.mp hk;have e:((k*k:Nat):Int)=p.1:=by rw[Int.natCast_mul];exact e
 have:k*k<=8*8:=Nat.mul_le_mul (by omega) (by omega)
 omega
theorem no_fifty{A:List Thing}{r:MRow}{n:Nat}(h:Bg A r n)(hn:n<=9):(50:Int)∉r.map (·.1):=fun z=>by
 rw[h.ks]at z;obtain⟨k,hk,e⟩:=List.mem_map.mp z;have hk:=List.mem_range.mp hk;have e:((k*k:Nat):Int)=50:=by rw[Int.natCast_mul];exact e
 have no:∀ k < 9,k*k≠50:=by decide
 exact no k (by omega) (by omega)
theorem len_flat:∀(ss:List Seg) (s:Seg),s∈ss->s.Q.length<=(ss.flatMap (·.Q)).length
 | [],_,h=>(List.not_mem_nil h).elim
 | t::ss,s,h=>by
   rw[List.flatMap_cons,List.length_append];rcases List.mem_cons.mp h with z | z
   · subst z;exact Nat.le_add_right _ _
   exact Nat.le_trans (len_flat ss s z) (Nat.le_add_left _ _)
theorem walkT_few:∀(ss:List Seg) (k:Nat),(∀ s∈ss,s.Q.length<=9) -> ∀ t∈walkT k ss,FewQ t
 | [],_,_,_,h=>(List.not_mem_nil h).elim
 | s::ss,k,hs,t,h=>by
   rcases List.mem_cons.mp (show t∈Thing.step s.c s.b s.Q::(dd k s.x++walkT (k+1) ss)from h)with z | z
   · subst z;exact hs s List.mem_cons_self
   rcases List.mem_append.mp z with y | y
   · cases e:s.x with
     | none=>rw[e]at y;exact(List.not_mem_nil y).elim
     | some v=>
       rw[e]at y;rcases List.mem_cons.mp y with y | y
       · subst y;exact trivial
       rcases List.mem_cons.mp y with y | y
       · subst y;exact trivial
       rcases List.mem_cons.mp y with y | y
       · subst y;exact trivial
       exact(List.not_mem_nil y).elim
   exact walkT_few ss (k+1) (fun s' h'=>hs s' (List.mem_cons_of_mem _ h')) t y
theorem FewQ.fit{t:Thing}(h:FewQ t):Fit t:=by
 cases t with
 | step a b c=>exact Nat.le_trans (show c.length<=9 from h) (by decide)
 | put a b c=>exact trivial
 | look a b=>exact trivial
 | cut a b=>exact trivial
def stF(T:List Thing)(i:Nat):Bool:=match T[i]? with
 | some t=>isSt t
 | none=>false
theorem stN_eq(T:List Thing):stN T=(List.range T.length).filter (stF T):=rfl
def spRight32:Sp:=fun vs H Q _=>∃(p s d:Addr) (xs:List V) (A:List Thing) (r:MRow) (n:Nat),vs=[.ref p,.ref s,.ref d]/\Sp3 p s d xs A r H/\Bg A r n/\2<=n/\n<=9/\A.length<=13 /\ ∀ H',Pot H' p->KeepBut p H H'->Q (.bl true) H'
theorem wRight32{p s d:Addr}{xs:List V}{A:List Thing}{r:MRow}{n:Nat}{H:Hp}{Q:VK}{E:XK}(h1:Sp3 p s d xs A r H)(h2:Bg A r n)(h3:2<=n)(h4:n<=9)(h5:A.length<=13)(k:∀ H',Pot H' p->KeepBut p H H'->Q (.bl true) H'):spRight32 ([.ref p,.ref s,.ref d]++[]) H Q E:=⟨p,s,d,xs,A,r,n,rfl,h1,h2,h3,h4,h5,k⟩
theorem wFaults32{p s st d:Addr}{xs:List V}{r:MRow}{ss:List Seg}{A:List Thing}{H:Hp}{Q:VK}{E:XK}(h1:Pot H p)(h2:s≠p)(h3:st≠p)(h4:d≠p)(h5:H s=some (.lst xs))(h6:ThVs H xs (walkT 0 ss))(h7:H st=some (.lst ((stN (walkT 0 ss)).map fun n:Nat=>V.int (n:Int))))(h8:H d=some (.dK (kvs r)))
 (h9:Wk A r ss) (h10:(50:Int)∉r.map (·.1)) (h11:r.length<=9) (h12:r≠[]) (h13:ss.length<=6) (h14:∀ t∈walkT 0 ss,Fit t) (h15:∀ t∈walkT 0 ss,FewQ t) (k:∀ q ys H',H' q=some (.lst ys)->(∀ y∈ys,BadV A q H' y)->Pot H' p->KeepBut p H H'->H q=none->Q (.ref q) H'):spFaults32 ([.ref p,.ref s,.ref st,.ref d]++[]) H Q E:=
 ⟨p,s,st,d,xs,r,ss,A,rfl,h1,h2,h3,h4,h5,h6,h7,h8,h9,h10,h11,h12,h13,h14,h15,k⟩
theorem q23_(d:Dfn K mg "_law_right" z17_ ["pot","story","plain"])(g:Gs K mg C)(q3_:Fn P w K mg base "first_wrong" 6 ["story"] spFW)(q14_:Fn P w K mg base "_law_take" 2 ["pot","many"] spTakeP)(q10_:Fn P w K mg base "_law_points" 3 ["pot","many"] spPoints)(q15_:Fn P w K mg base "_law_walk" 4 ["pot","plain","points"] spWalk32)(q8_:Fn P w K mg base "_law_faults" 3 ["pot","walk","steps","plain"] spFaults32):Fn P w K mg base "_law_right" 7 ["pot","story","plain"] spRight32:=by
 refine d.fn z39_ (fun vs H Q E h=>?_) (fun f cdv A' outer st' H vs Q E hr h=>?_)
 · obtain⟨p,s,d,xs,A,r,n,rfl,_⟩:=h
   rfl
 obtain⟨p,s,d,xs,A,r,n,rfl,J,Bq,n2,n9,hA,k⟩:=h;have lim:sizeLine=16777216:=sizeLine_eq;have hxl:=paired_len J.t;refine⟨_,(B.scons (B.set 3 z39_.nd (B.fn q15_ hr.up (B.cons (B.v 0) (B.cons (B.v 2) (B.cons (B.fn q10_ hr.up (B.cons (B.v 0) (B.cons (B.op op_add B.int (B.fn q14_ hr.up (B.cons (B.v 0) (B.cons B.int B.nil)))) B.nil))) B.nil)))))
  (B.scons (SW.B.compSetIf 4 [3] ["k","walk"] (SW.CompScope.of rfl rfl (by decide +kernel) (by decide +kernel) rfl ⟨rfl,trivial⟩ rfl rfl rfl) (by decide +kernel) z39_.nd (B.irange g.b_range (B.cons (B.cB call_len_seq g.b_len SW.b_len (B.cons (B.v 3) B.nil)) B.nil)) (fun _ _ _ _=>(B.tcmp op_eq (B.ix (SW.ix_tupK K) (B.ix (SW.ix_listK K) (B.v 1) (B.v 0)) B.int) B.str)) (fun _ _ _ _=>(B.v 0)))
  (B.scons (B.set 5 z39_.nd (B.op op_cat (B.op op_cat (B.v 1) (B.v 3)) (B.lst (B.cons (B.tup (B.cons B.str (B.cons B.int (B.cons B.int (B.cons (B.cT call_tuple_of g.b_tuple SW.b_tuple (B.cons (B.cB SW.call_sortedIP g.b_sorted SW.b_sorted (B.cons (B.items (B.v 2)) B.nil)) B.nil)) B.nil))))) B.nil))))
  (B.scons (B.ifs (B.tw (B.wor (B.tcmp op_notN (B.fn q3_ hr.up (B.cons (B.v 5) B.nil)) B.non) (B.wor1 (B.tcmp op_ne (B.fn q3_ hr.up (B.cons (B.op op_cat (B.op op_cat (B.v 1) (B.v 3)) (B.lst (B.cons (B.tup (B.cons B.str (B.cons B.int (B.cons B.int (B.cons (B.tup B.nil) B.nil))))) B.nil))) B.nil)) (B.cB call_len_seq g.b_len SW.b_len (B.cons (B.op op_cat (B.v 1) (B.v 3)) B.nil)))))) (B.sone (B.ret B.bl)) B.snil)
  (B.scons (B.fors (B.ilist (B.fn q8_ hr.up (B.cons (B.v 0) (B.cons (B.v 3) (B.cons (B.v 4) (B.cons (B.v 2) B.nil)))))) (B.gtup (B.gcons (B.gname (i:=6) z39_.nd) (B.gcons (B.gname (i:=7) z39_.nd) B.gnil))) (B.scons (B.set 8 z39_.nd (B.fn q3_ hr.up (B.cons (B.op op_cat (B.v 1) (B.v 6)) B.nil)))
  (B.scons (B.ifs (B.tw (B.wor (B.tw (B.wand (B.tcmp op_isN (B.v 7) B.non) (B.wand1 (B.tcmp op_notN (B.v 8) B.non)))) (B.wor1 (B.tw (B.wand (B.tcmp op_notN (B.v 7) B.non) (B.wand1 (B.tcmp op_ne (B.v 8) (B.op op_add (B.cB call_len_seq g.b_len SW.b_len (B.cons (B.v 1) B.nil)) (B.v 7))))))))) (B.sone (B.ret B.bl)) B.snil)
  (B.sone (B.ifs (B.tw (B.wand (B.tcmp op_notN (B.v 7) B.non) (B.wand1 (B.tcmp op_notN (B.fn q3_ hr.up (B.cons (B.slice sl_list (B.op op_cat (B.v 1) (B.v 6)) B.nopart (B.part (B.op op_add (B.cB call_len_seq g.b_len SW.b_len (B.cons (B.v 1) B.nil)) (B.v 7)))) B.nil)) B.non)))) (B.sone (B.ret B.bl)) B.snil)))))
  (B.sone (B.ret B.bl))))))),?_⟩
 walk_at "W";refine wTakeP J.P (by decide) (by decide) fun m H1 m0 m1 P1 K1=>?_
 have J1:=J.pot K1 P1;walk_at "W";refine wPoints (by omega) (by omega) P1 fun q ns l H2 hq0 hq hn hpt hl P2 K2=>?_
 have J2:=J1.pot K2 P2;have nqp:q≠p:=(P1.ne0 hq0).symm;walk_at "W";refine wWalk32 P2 J2.n2 nqp J2.hd Bq.ok (by rw[Bq.len];omega) hq (by omega) (by omega) hpt hl fun wa xw ss H3 hw0 hw hwt ch pm hsl P3 K3=>?_
 have J3:=J2.pot K3 P3;have nwp:wa≠p:=(P2.ne0 hw0).symm;have wk:Wk A r ss:=⟨Bq.fa,Bq.ra,Bq.ok,low_bg Bq n9,ch,pm⟩;have K03:=(K1.trans K2).trans K3;have hs6:ss.length<=6:=by omega
 have few:∀ t∈walkT 0 ss,FewQ t:=walkT_few ss 0 fun s hs=>Nat.le_trans (len_flat ss s hs) (by rw[pm.length_eq,Bq.len];exact n9)
 have fit:∀ t∈walkT 0 ss,Fit t:=fun t h=>(few t h).fit;clear K1 K2 K3 J J1 J2 P1 P2 hq hq0 nqp hw0 hpt hl;have hwl:=paired_len hwt;have hTl:(walkT 0 ss).length<=24:=by have:=walkT_len ss 0;omega
 walk_at "W";refine SW.iLen (.inl (SqL.of hw)) ?_;walk_at "W";refine⟨((xw.length:Nat):Int),rfl,by omega,by omega,fun D hD=>?_⟩
 have hDn:∀ b o,H3 b=some o->b≠D:=fun b o e=>ne_of_none e hD;refine comp_range (fun i σ' H'=>(∃ v:Option V,σ'=[v,some (.ref wa)])/\Same H3 H'/\H' D=some (.lst (((List.range i).filter (stF (walkT 0 ss))).map fun j:Nat=>V.int (j:Int)))) ⟨⟨none,rfl⟩,Same.new hD,upd_same⟩ ?_ ?_
 · rintro i σ' H' hi ⟨⟨v,rfl⟩,s',hD'⟩
   have hi':i < xw.length:=by
    have:i < ((xw.length:Nat):Int).toNat:=hi;omega
   have hs':=s' _ _ hw;have hxi:xw[i]?=some xw[i]:=List.getElem?_eq_getElem hi';obtain⟨th,hth,hx⟩:=paired_get hwt hxi;have hx':=hx.keep fun a xs e=>s' _ _ e;have hat:atI xw (0+(i:Int))=some xw[i]:=by rw[Int.zero_add];exact atI_nat hxi
   have hbf:stF (walkT 0 ss) i=isSt th:=by unfold stF;rw[hth]
   have yes:isSt th=true->CN (fun i σ' H'=>(∃ v:Option V,σ'=[v,some (.ref wa)])/\Same H3 H'/\H' D=some (.lst (((List.range i).filter (stF (walkT 0 ss))).map fun j:Nat=>V.int (j:Int)))) ((xw.length:Nat):Int).toNat i D [some (V.int (0+(i:Int))),some (.ref wa)] (V.int (0+(i:Int))) H':=by
    intro e;refine CN.mk hi hD' (by rw[List.length_map];exact Nat.lt_of_le_of_lt (List.length_filter_le ..) (by rw[List.length_range];omega)) ⟨⟨_,rfl⟩,fun b o e=>by rw[upd_ne (hDn b o e)];exact s' _ _ e,?_⟩
    rw[upd_same,List.range_succ,List.filter_append,List.filter_cons,hbf,e,if_pos rfl,List.filter_nil,List.map_append,Int.zero_add]
    rfl
   have no:isSt th=false->CO (fun i σ' H'=>(∃ v:Option V,σ'=[v,some (.ref wa)])/\Same H3 H'/\H' D=some (.lst (((List.range i).filter (stF (walkT 0 ss))).map fun j:Nat=>V.int (j:Int)))) ((xw.length:Nat):Int).toNat i [some (V.int (0+(i:Int))),some (.ref wa)] H':=by
    intro e;refine CO.mk hi ⟨⟨_,rfl⟩,s',?_⟩;rw[hD',List.range_succ,List.filter_append,List.filter_cons,hbf,e,if_neg Bool.false_ne_true,List.filter_nil,List.append_nil]
   walk_at "W";refine wIxL hs' hat ?_;cases th with
   | step c1 b1 p1=>
     obtain⟨u1,q1,y1,e1,hu1,_⟩:=hx';rw[e1]at hat;rw[e1];walk_at "W";refine⟨rfl,?_⟩;walk_at "W";refine iteY rfl ?_;walk_at "W";exact yes rfl
   | put a1 a2 a3=>
     obtain⟨u1,e1,hu1⟩:=hx';rw[e1];walk_at "W";refine⟨rfl,?_⟩;walk_at "W";refine iteNo (str_ne (by decide +kernel)) ?_
     exact no rfl
   | look a1 a2=>
     obtain⟨u1,e1,hu1⟩:=hx';rw[e1];walk_at "W";refine⟨rfl,?_⟩;walk_at "W";refine iteNo (str_ne (by decide +kernel)) ?_
     exact no rfl
   | cut a1 a2=>
     obtain⟨u1,e1,hu1⟩:=hx';rw[e1];walk_at "W";refine⟨rfl,?_⟩;walk_at "W";refine iteNo (str_ne (by decide +kernel)) ?_
     exact no rfl
 rintro σ' H4 ⟨⟨v,rfl⟩,s4,h4⟩;rw[show((xw.length:Nat):Int).toNat=(walkT 0 ss).length by rw[Int.toNat_natCast,hwl],← stN_eq]at h4
 have J4:=J3.same s4;have K04:=K03.trans (SW.Same.but (p:=p) s4);have hw4:=s4 _ _ hw;have hwt4:=hwt.keep (Same.tk s4);have nDp:D≠p:=(P3.ne0 hD).symm;clear K03 J3 P3 hw hwt s4 hDn hD;rename_i N hN;refine show N [some (.ref p),some (.ref s),some (.ref d),some (.ref wa),some (.ref D),none,none,none,none] H4 from ?_;refine SW.wGo hN ?_;walk_at "W";have wl:xs.length+xw.length<=37:=by omega
 refine⟨s,wa,_,_,rfl,rfl,J4.hs,hw4,by omega,fun l1 hl1=>?_⟩
 have a1:=Same.new (o:=.lst (xs++xw)) hl1;have el1:upd H4 l1 (.lst (xs++xw)) l1=some (.lst (xs++xw)):=upd_same;generalize upd H4 l1 (.lst (xs++xw))=H5 at *;have J5:=J4.same a1;have hd5:=J5.hd;walk_at "W";refine⟨d,_,rfl,hd5,fun v hv=>?_⟩;have a2:=Same.new (o:=ViewO v d) hv;walk_at "W";refine⟨v,d,r,rfl,upd_same,a2 _ _ hd5,rfl,fun l2 ws qs H6 s6 hl2 hl2' hws hpm hso=>?_⟩;have a26:=a2.trans s6;walk_at "W";refine⟨l2,ws,rfl,.inl ⟨SqL.of hl2',fun t1 ht1=>?_⟩⟩;have a4:=Same.new (o:=.tup ws) ht1;have et1:upd H6 t1 (.tup ws) t1=some (.tup ws):=upd_same;generalize upd H6 t1 (.tup ws)=H7 at *;walk_at "W";refine⟨by show(4:Nat)<=sizeLine;decide,fun t2 ht2=>?_⟩
 have a5:=Same.new (o:=.tup [.str "step",.int 0,.int 0,.ref t1]) ht2;have et2:upd H7 t2 (.tup [.str "step",.int 0,.int 0,.ref t1]) t2=some (.tup [.str "step",.int 0,.int 0,.ref t1]):=upd_same;generalize upd H7 t2 (.tup [.str "step",.int 0,.int 0,.ref t1])=H8 at *;walk_at "W";refine⟨by show(1:Nat)<=sizeLine;decide,fun l3 hl3=>?_⟩
 have a6:=Same.new (o:=.lst [.ref t2]) hl3;have el3:upd H8 l3 (.lst [.ref t2]) l3=some (.lst [.ref t2]):=upd_same;generalize upd H8 l3 (.lst [.ref t2])=H9 at *;have a69:=(a4.trans a5).trans a6;have a59:=a26.trans a69;walk_at "W";refine⟨l1,l3,_,_,rfl,rfl,a59 _ _ el1,el3,by rw[List.length_append];show _+_+1<=_;omega,fun l4 hl4=>?_⟩
 have a7:=Same.new (o:=.lst (xs++xw++[.ref t2])) hl4;have el4:upd H9 l4 (.lst (xs++xw++[.ref t2])) l4=some (.lst (xs++xw++[.ref t2])):=upd_same;generalize upd H9 l4 (.lst (xs++xw++[.ref t2]))=H10 at *;have a410:=(a1.trans a59).trans a7;have tk410:=Same.tk a410;have q9:qs.length<=9:=by rw[hpm.length_eq,Bq.len];exact n9
 have t10:ThVs H10 (xs++xw++[.ref t2]) (A++walkT 0 ss++[.step 0 0 qs]):=
  paired_append (.cons ⟨t2,t1,ws,rfl,a7 _ _ (a6 _ _ et2),a7 _ _ (a6 _ _ (a5 _ _ et1)),Prs.keep hws (Same.tk (a69.trans a7))⟩ .nil) (paired_append (hwt4.keep tk410) (J4.t.keep tk410))
 have J10:=J4.same a410;have K010:=K04.trans (SW.Same.but (p:=p) a410);have hw10:=a410 _ _ hw4;have hwt10:=hwt4.keep tk410;have h10:=a410 _ _ h4;have fitA:∀ t∈A++walkT 0 ss,Fit t:=fit_apps Bq.ft fit;clear a1 a2 a26 a4 a5 a6 a7 a69 a59 a410 tk410 J4 J5 hd5 hw4 hwt4 h4 K04 el1 hl1 hv s6 hl2 hl2' hws hso ht1 et1 ht2 et2 hl3 el3 hl4;walk_at "W";refine wFW el4 t10 (by rw[List.length_append,List.length_append];show _+_+1<=500;omega) (fit_app fitA (by show qs.length<=1000;omega)) fun H11 s11=>?_
 rw[wk.again hpm];have J11:=J10.same s11;have K011:=K010.trans (SW.Same.but (p:=p) s11);have hw11:=s11 _ _ hw10;have hwt11:=hwt10.keep (Same.tk s11);have h11:=s11 _ _ h10;clear s11 J10 K010 hw10 hwt10 h10 t10 el4;walk_at "W";refine⟨rfl,?_⟩;walk_at "W";refine iteNS rfl ?_;walk_at "W";refine⟨s,wa,_,_,rfl,rfl,J11.hs,hw11,by omega,fun l5 hl5=>?_⟩
 have a1:=Same.new (o:=.lst (xs++xw)) hl5;have el5:upd H11 l5 (.lst (xs++xw)) l5=some (.lst (xs++xw)):=upd_same;generalize upd H11 l5 (.lst (xs++xw))=H12 at *;walk_at "W";refine⟨by show(0:Nat)<=sizeLine;decide,fun t3 ht3=>?_⟩
 have a2:=Same.new (o:=.tup []) ht3;have et3:upd H12 t3 (.tup []) t3=some (.tup []):=upd_same;generalize upd H12 t3 (.tup [])=H13 at *;walk_at "W";refine⟨by show(4:Nat)<=sizeLine;decide,fun t4 ht4=>?_⟩
 have a3:=Same.new (o:=.tup [.str "step",.int 7,.int 0,.ref t3]) ht4;have et4:upd H13 t4 (.tup [.str "step",.int 7,.int 0,.ref t3]) t4=some (.tup [.str "step",.int 7,.int 0,.ref t3]):=upd_same;generalize upd H13 t4 (.tup [.str "step",.int 7,.int 0,.ref t3])=H14 at *;walk_at "W";refine⟨by show(1:Nat)<=sizeLine;decide,fun l6 hl6=>?_⟩
 have a4:=Same.new (o:=.lst [.ref t4]) hl6;have el6:upd H14 l6 (.lst [.ref t4]) l6=some (.lst [.ref t4]):=upd_same;generalize upd H14 l6 (.lst [.ref t4])=H15 at *;have a24:=(a2.trans a3).trans a4;walk_at "W";refine⟨l5,l6,_,_,rfl,rfl,a24 _ _ el5,el6,by rw[List.length_append];show _+_+1<=_;omega,fun l7 hl7=>?_⟩
 have a5:=Same.new (o:=.lst (xs++xw++[.ref t4])) hl7;have el7:upd H15 l7 (.lst (xs++xw++[.ref t4])) l7=some (.lst (xs++xw++[.ref t4])):=upd_same;generalize upd H15 l7 (.lst (xs++xw++[.ref t4]))=H16 at *;have a15:=(a1.trans a24).trans a5;have J16:=J11.same a15;have t16:ThVs H16 (xs++xw++[.ref t4]) (A++walkT 0 ss++[.step 7 0 []]):=
  paired_append (.cons ⟨t4,t3,[],rfl,a5 _ _ (a4 _ _ et4),a5 _ _ (a4 _ _ (a3 _ _ et3)),.nil⟩ .nil) (paired_append (hwt11.keep (Same.tk a15)) J16.t)
 have K016:=K011.trans (SW.Same.but (p:=p) a15);have hw16:=a15 _ _ hw11;have hwt16:=hwt11.keep (Same.tk a15);have h16:=a15 _ _ h11;clear a1 a2 a3 a4 a5 a24 a15 J11 K011 hw11 hwt11 h11 hl5 el5 ht3 et3 ht4 et4 hl6 el6 hl7;walk_at "W";refine wFW el7 t16 (by rw[List.length_append,List.length_append];show _+_+1<=500;omega) (fit_app fitA (by show(0:Nat)<=1000;omega)) fun H17 s17=>?_
 rw[wk.seven];have J17:=J16.same s17;have K017:=K016.trans (SW.Same.but (p:=p) s17);have hw17:=s17 _ _ hw16;have hwt17:=hwt16.keep (Same.tk s17);have h17:=s17 _ _ h16;clear s17 J16 K016 hw16 hwt16 h16 t16 el7;walk_at "W";refine⟨s,wa,_,_,rfl,rfl,J17.hs,hw17,by omega,fun l8 hl8=>?_⟩
 have a1:=Same.new (o:=.lst (xs++xw)) hl8;have el8:upd H17 l8 (.lst (xs++xw)) l8=some (.lst (xs++xw)):=upd_same;generalize upd H17 l8 (.lst (xs++xw))=H18 at *;have J18:=J17.same a1;have K018:=K017.trans (SW.Same.but (p:=p) a1);have hw18:=a1 _ _ hw17;have hwt18:=hwt17.keep (Same.tk a1);have h18:=a1 _ _ h17;clear a1 J17 K017 hw17 hwt17 h17 hl8;walk_at "W";refine SW.iLen (.inl (SqL.of el8)) ?_;walk_at "W";refine⟨rfl,?_⟩;walk_at "W";refine iteNS (by rw[List.length_append,List.length_append,hxl,hwl];rfl) ?_
 walk_at "W1";rename_i N1 hN1;refine show N1 [some (.ref p),some (.ref s),some (.ref d),some (.ref wa),some (.ref D),some (.ref l4),none,none,none] H18 from ?_;refine SW.wGo hN1 ?_;walk_at "W";refine wFaults32 J18.P nwp nDp J18.n2 hw18 hwt18 h18 J18.hd wk (no_fifty Bq n9) (by rw[Bq.len];exact n9) (fun z=>by have:=Bq.len;rw[z]at this;have:0=n:=this;omega) hs6 fit few fun q ys H19 hq hB P19 K19 hq0=>?_
 have nqp:q≠p:=(J18.P.ne0 hq0).symm;have nqs:q≠s:=(ne_of_none J18.hs hq0).symm;have J19:=J18.pot K19 P19;have K019:=K018.trans K19;clear J18 K018 hw18 hwt18 h18 el8 K19 P19 hq0;walk_at "W";refine⟨q,rfl,⟨_,SqL.of hq⟩,?_⟩;refine SW.forListC (xs:=ys) (fun i σ H'=>∃ v6 v7 v8:Option V,σ=[some (.ref p),some (.ref s),some (.ref d),some (.ref wa),some (.ref D),some (.ref l4),v6,v7,v8]/\Same H19 H') ⟨none,none,none,rfl,fun _ _ e=>e⟩ (fun i σ H' _ ⟨_,_,_,_,h⟩=>SqL.of (h _ _ hq)) ?_ ?_
 · rintro i y σ H20 hi ⟨v6,v7,v8,rfl,s20⟩
   obtain⟨u,b,bs,Bt,o,rfl,nb,hu,hb,htb,hfw,hbl,hbf⟩:=(hB y (List.mem_of_getElem? hi)).same s20;have J20:=J19.same s20;have hbsl:=paired_len htb;walk_at "W";refine⟨u,_,rfl,SqT.of hu,rfl,_,_,rfl,_,_,rfl,rfl,?_⟩;walk_at "W";refine⟨s,b,_,_,rfl,rfl,J20.hs,hb,by omega,fun l9 hl9=>?_⟩
   have a1:=Same.new (o:=.lst (xs++bs)) hl9;have el9:upd H20 l9 (.lst (xs++bs)) l9=some (.lst (xs++bs)):=upd_same;generalize upd H20 l9 (.lst (xs++bs))=H21 at *;have fitB:∀ t∈A++Bt,Fit t:=fit_apps Bq.ft hbf;have t21:ThVs H21 (xs++bs) (A++Bt):=paired_append (htb.keep (Same.tk a1)) (J20.t.keep (Same.tk a1));walk_at "W";refine wFW el9 t21 (by rw[List.length_append];omega) fitB fun H22 s22=>?_
   rw[hfw];have J22:=(J20.same a1).same s22;have hb22:=s22 _ _ (a1 _ _ hb);have htb22:=(htb.keep (Same.tk a1)).keep (Same.tk s22);have s022:=(s20.trans a1).trans s22;clear J20 a1 s22 s20 hb htb hu t21 el9 hl9;cases o with
   | none=>
     walk_at "W";refine⟨rfl,?_⟩;walk_at "W";refine iteY rfl ?_;walk_at "W";refine⟨rfl,?_⟩;walk_at "W";refine iteNS rfl ?_;walk_at "W";refine⟨rfl,?_⟩;walk_at "W";refine iteNS rfl ?_;refine iteF ?_;walk_at "W";refine⟨rfl,?_⟩;walk_at "W";refine iteNS rfl ?_;refine iteF ?_;walk_at "W";exact⟨_,_,_,rfl,s022⟩
   | some n=>
     have hfw:fw L0 (A++Bt)=some (A.length+n):=hfw;have hlt:=fw_lt _ _ _ hfw;walk_at "W";refine⟨rfl,?_⟩;walk_at "W";refine iteNo (fun z=>nomatch z) ?_;refine iteF ?_;walk_at "W";refine⟨rfl,?_⟩;walk_at "W";refine iteF2 (fun z=>nomatch z) ?_;walk_at "W";refine SW.iLen (.inl (SqL.of J22.hs)) ?_;walk_at "W";refine⟨_,_,rfl,rfl,?_⟩;walk_at "W";refine⟨rfl,?_⟩;walk_at "W";refine iteNS (by rw[hxl];rfl) ?_
     walk_at "W";refine⟨rfl,?_⟩;walk_at "W";refine iteF2 (fun z=>nomatch z) ?_;walk_at "W";refine⟨s,b,_,_,rfl,rfl,J22.hs,hb22,by omega,fun l10 hl10=>?_⟩
     have a1:=Same.new (o:=.lst (xs++bs)) hl10;have el10:upd H22 l10 (.lst (xs++bs)) l10=some (.lst (xs++bs)):=upd_same;generalize upd H22 l10 (.lst (xs++bs))=H23 at *;have J23:=J22.same a1;have htb23:=htb22.keep (Same.tk a1);have s023:=s022.trans a1;clear a1 J22 htb22 hb22 s022 hl10;walk_at "W";refine SW.iLen (.inl (SqL.of J23.hs)) ?_;walk_at "W";refine⟨_,_,rfl,rfl,?_⟩;walk_at "W";refine⟨((xs.length+n:Nat):Int),by rw[Int.natCast_add],l10,_,rfl,SqL.of el10,fun l11 hl11=>?_⟩
     have hlt2:xs.length+n<=(xs++bs).length:=by rw[List.length_append]at hlt ⊢;omega
     rw[cut_le hlt2];have a2:=Same.new (o:=.lst ((xs++bs).take (xs.length+n))) hl11;have t24:ThVs (upd H23 l11 (.lst ((xs++bs).take (xs.length+n)))) ((xs++bs).take (xs.length+n)) ((A++Bt).take (A.length+n)):=by
      rw[hxl];rw[hxl]at a2;exact paired_take _ (paired_append (htb23.keep (Same.tk a2)) (J23.t.keep (Same.tk a2)))
     walk_at "W";refine wFW upd_same t24 (by rw[List.length_take,List.length_append];omega) (fun t h=>fitB t (List.mem_of_mem_take h)) fun H25 s25=>?_
     have e25:fw L0 ((A++Bt).take (A.length+n))=none:=by rw[fw_take,hfw];exact if_pos (Nat.le_refl _)
     rw[e25];walk_at "W";refine⟨rfl,?_⟩;walk_at "W";refine iteNS rfl ?_;walk_at "W";exact⟨_,_,_,rfl,(s023.trans a2).trans s25⟩
 rintro σ H20 ⟨v6,v7,v8,rfl,s20⟩;walk_at "W";exact k H20 (J19.P.same s20) (K019.trans (SW.Same.but s20))
theorem ok_law{f:Addr}{fd:FuncData}(F:Fun K "law" "law" z8_ f fd)(g:Gs K mg C)
 (q11_:Fn P w K mg base "_law_pot" 1 ["cell"] spPotP)
 (q7_:Fn P w K mg base "_law_begun" 4 ["pot"] spBegun32) (q13_:Fn P w K mg base "_law_right" 7 ["pot","story","plain"] spRight32) :
 FnOk P w K mg base CX0 8 f fd ["script"] (spLaw K):=by
 refine fun_bx F z30_ (fun vs H Q E h=>?_) (fun cdv A outer st H vs Q E hr h=>?_)
 · obtain⟨a,ns,rfl,_⟩:=h
   rfl
 obtain⟨a,ns,rfl,hS,hlen,k⟩:=h;refine⟨_,(B.scons (B.fors (B.ilist (B.op op_cat (B.slice sl_list (B.v 0) B.nopart (B.part B.int)) (B.lst (B.cons (B.cB call_len_seq g.b_len SW.b_len (B.cons (B.v 0) B.nil)) B.nil)))) (B.gname (i:=1) z30_.nd) (B.scons (B.set 2 z30_.nd (B.fn q11_ hr.up (B.cons (B.v 1) B.nil)))
  (B.scons (B.asg (B.fn q7_ hr.up (B.cons (B.v 2) B.nil)) (B.gtup (B.gcons (B.gname (i:=3) z30_.nd) (B.gcons (B.gname (i:=4) z30_.nd) B.gnil))))
  (B.sone (B.ifs (B.tnot (B.tval (B.fn q13_ hr.up (B.cons (B.v 2) (B.cons (B.v 3) (B.cons (B.v 4) B.nil)))))) (B.sone (B.ret B.bl)) B.snil)))))
  (B.sone (B.ret B.bl))),?_⟩
 walk_at "W";refine⟨5,rfl,a,_,rfl,hS,fun l1 h1=>?_⟩;obtain⟨cs,ecs,hcs⟩:=cut_ints ns none (some 5);rw[ecs];have s1:Same H (upd H l1 (.lst (cs.map V.int))):=Same.new h1;walk_at "W";refine SW.iLen (.inl (s1.seq hS)) ?_;walk_at "W";refine⟨by show(1:Nat)<=sizeLine;decide,fun l2 h2=>?_⟩
 have s2:=Same.new (o:=.lst [.int ((ns.map V.int).length:Nat)]) h2;walk_at "W";refine⟨l1,l2,_,_,rfl,rfl,s2 _ _ upd_same,upd_same,by rw[List.length_map];show _+1<=sizeLine;have:sizeLine=16777216:=sizeLine_eq;omega,fun q hq=>?_⟩
 obtain⟨ds,hds⟩:∃ ds,ds=cs++[((ns.map V.int).length:Int)]:=⟨_,rfl⟩;rw[show cs.map V.int++[V.int ((ns.map V.int).length:Nat)]=ds.map V.int by rw[hds,List.map_append];rfl]
 refine⟨q,rfl,⟨_,SqL.of upd_same⟩,?_⟩;refine SW.forListC (xs:=ds.map V.int) (fun i σ H'=>∃ v1 v2 v3 v4,σ=[some (.ref a),v1,v2,v3,v4]/\H' q=some (.lst (ds.map V.int)))
  ⟨none,none,none,none,rfl,upd_same⟩ (fun i σ H' _ ⟨_,_,_,_,_,h⟩=>SqL.of h) ?_ ?_
 · rintro i y σ H2 hi ⟨v1,v2,v3,v4,rfl,hq2⟩
   obtain⟨c,rfl⟩:=getInt hi;walk_at "W";refine wPotP fun p H3 hp s3 R3=>?_;have nqp:q≠p:=ne_of_none hq2 hp;have q3:=s3 _ _ hq2;walk_at "W";refine wBegun32 R3 fun t s d xs A' r n H4 J4 B4 n2 n9 hA ht4 K4=>?_;walk_at "W";refine⟨t,_,rfl,SqT.of ht4,rfl,_,_,rfl,_,_,rfl,rfl,?_⟩;walk_at "W";refine wRight32 J4 B4 n2 n9 hA fun H5 P5 K5=>?_;walk_at "W";refine iteF ?_;walk_at "W";exact⟨_,_,_,_,rfl,(K4.trans K5) _ _ nqp q3⟩
 rintro σ H2 ⟨v1,v2,v3,v4,rfl,hq2⟩;walk_at "W";exact k _
theorem all_mk{l:W.OpenLaw}{w:World}{K:W.Frag}{h:Heap}{mg:Str->Option Value}{fa:Addr}(X:K.In h)(G:h.Ns mainGlobals mg)(hfa:mg "law"=some (.ref fa))
 {C_Listener:Addr}
 {f0:Addr}{g0:FuncData}
 {f1:Addr}{g1:FuncData}
 {f2:Addr}{g2:FuncData}
 {f3:Addr}{g3:FuncData}
 {f4:Addr}{g4:FuncData}
 {f5:Addr}{g5:FuncData}
 {f6:Addr}{g6:FuncData}
 {f7:Addr}{g7:FuncData}
 {f8:Addr}{g8:FuncData}
 {f9:Addr}{g9:FuncData}
 {f10:Addr}{g10:FuncData}
 {f11:Addr}{g11:FuncData}
 {f12:Addr}{g12:FuncData}
 {f13:Addr}{g13:FuncData}
 {f14:Addr}{g14:FuncData}
 {f15:Addr}{g15:FuncData}
 {f16:Addr}{g16:FuncData}
 {f17:Addr}{g17:FuncData}
 {f18:Addr}{g18:FuncData}
 {f19:Addr}{g19:FuncData}
 {tk0:Tok}
 (q_Listener:W.nsIn K mainGlobals "Listener"=some (some (.ref C_Listener)))
 (pg_Listener:W.plainGet K C_Listener Str.empty=true)
 (hd_Listener:W.hasDictIn K C_Listener=true)
 (po_Listener:W.plainOver K C_Listener=true)
 (sa_Listener:W.findIn K (.ref C_Listener) "__setattr__"=some (some (.builtin "object.__setattr__")))
 (mk_Listener:W.makesIn K C_Listener=true)
 (kc_Listener:W.keepIn K (.ref C_Listener)=true)
 (na_Listener_worths:W.findIn K (.ref C_Listener) "worths"=some none)
 (na_Listener_cursor:W.findIn K (.ref C_Listener) "cursor"=some none)
 (na_Listener_owed:W.findIn K (.ref C_Listener) "owed"=some none)
 (a0:W.nsIn K mainGlobals "is_whole"=some (some (.ref f0)))
 (u0:Fun K "is_whole" "is_whole" z7_ f0 g0)
 (a1:W.nsIn K mainGlobals "is_point"=some (some (.ref f1)))
 (u1:Fun K "is_point" "is_point" z6_ f1 g1)
 (a2:W.findIn K (.ref C_Listener) "__init__"=some (some (.ref f2)))
 (i2:W.isFn K (.ref f2)=true)
 (u2:Fun K "__init__" "Listener.__init__" z0_ f2 g2)
 (a3:W.nsIn K mainGlobals "may_follow"=some (some (.ref f3)))
 (u3:Fun K "may_follow" "may_follow" z21_ f3 g3)
 (a4:W.findIn K (.ref C_Listener) "has_all"=some (some (.ref f4)))
 (i4:W.isFn K (.ref f4)=true)
 (u4:Fun K "has_all" "Listener.has_all" z4_ f4 g4)
 (a5:W.findIn K (.ref C_Listener) "agrees_to_step"=some (some (.ref f5)))
 (i5:W.isFn K (.ref f5)=true)
 (u5:Fun K "agrees_to_step" "Listener.agrees_to_step" z3_ f5 g5)
 (a6:W.findIn K (.ref C_Listener) "agrees_to_deed"=some (some (.ref f6)))
 (i6:W.isFn K (.ref f6)=true)
 (u6:Fun K "agrees_to_deed" "Listener.agrees_to_deed" z2_ f6 g6)
 (a7:W.findIn K (.ref C_Listener) "agrees"=some (some (.ref f7)))
 (i7:W.isFn K (.ref f7)=true)
 (u7:Fun K "agrees" "Listener.agrees" z1_ f7 g7)
 (a8:W.nsIn K mainGlobals "first_wrong"=some (some (.ref f8)))
 (u8:Fun K "first_wrong" "first_wrong" z5_ f8 g8)
 (a9:W.nsIn K mainGlobals "_law_mixed"=some (some (.ref f9)))
 (u9:Fun K "_law_mixed" "_law_mixed" z12_ f9 g9)
 (a10:W.nsIn K mainGlobals "_law_pot"=some (some (.ref f10)))
 (u10:Fun K "_law_pot" "_law_pot" z15_ f10 g10)
 (a11:W.nsIn K mainGlobals "_law_take"=some (some (.ref f11)))
 (u11:Fun K "_law_take" "_law_take" z18_ f11 g11)
 (a12:W.nsIn K mainGlobals "_law_worth"=some (some (.ref f12)))
 (u12:Fun K "_law_worth" "_law_worth" z20_ f12 g12)
 (a13:W.nsIn K mainGlobals "_law_points"=some (some (.ref f13)))
 (u13:Fun K "_law_points" "_law_points" z14_ f13 g13)
 (a14:W.nsIn K mainGlobals "_law_walk"=some (some (.ref f14)))
 (u14:Fun K "_law_walk" "_law_walk" z19_ f14 g14)
 (a15:W.nsIn K mainGlobals "_law_begun"=some (some (.ref f15)))
 (u15:Fun K "_law_begun" "_law_begun" z9_ f15 g15)
 (a16:W.nsIn K mainGlobals "_law_put_in"=some (some (.ref f16)))
 (u16:Fun K "_law_put_in" "_law_put_in" z16_ f16 g16)
 (a17:W.nsIn K mainGlobals "_law_faults"=some (some (.ref f17)))
 (u17:Fun K "_law_faults" "_law_faults" z11_ f17 g17)
 (a18:W.nsIn K mainGlobals "_law_right"=some (some (.ref f18)))
 (u18:Fun K "_law_right" "_law_right" z17_ f18 g18)
 (a19:W.nsIn K mainGlobals "law"=some (some (.ref f19)))
 (u19:Fun K "law" "law" z8_ f19 g19)
 (cst0:W.nsIn K mainGlobals "LAST_POINT"=some (some (.int 65535 tk0)))
 (blt0:W.nsIn K mainGlobals "int"=some none)
 (blt1:W.nsIn K mainGlobals "bool"=some none)
 (blt2:W.nsIn K mainGlobals "isinstance"=some none)
 (blt3:W.nsIn K mainGlobals "range"=some none)
 (blt4:W.nsIn K mainGlobals "len"=some none)
 (blt5:W.nsIn K mainGlobals "list"=some none)
 (blt6:W.nsIn K mainGlobals "tuple"=some none)
 (blt7:W.nsIn K mainGlobals "max"=some none)
 (blt8:W.nsIn K mainGlobals "set"=some none)
 (blt9:W.nsIn K mainGlobals "dict"=some none)
 (blt10:W.nsIn K mainGlobals "all"=some none)
 (blt11:W.nsIn K mainGlobals "sorted"=some none)
 (blt12:W.nsIn K mainGlobals "enumerate"=some none) :
 ∃ fd:FuncData,(∀(s:Shared) (v:Value),BindsTo s fd ⟨[v],[]⟩ [("script",v)]) /\ ∀ base:Heap,K.In base->base.Ns mainGlobals mg->FnOk l.prog w K mg base CX0 8 fa fd ["script"] (spLaw K):=by
 have e:=hfa.symm.trans (W.mg_of X G a19);cases e;have g:Gs K mg C_Listener:=⟨⟨_,W.mg_of X G cst0⟩,⟨pg_Listener,hd_Listener,po_Listener,sa_Listener⟩,na_Listener_worths,na_Listener_cursor,na_Listener_owed,W.mg_none_of X G blt0,W.mg_none_of X G blt1,W.mg_none_of X G blt2,W.mg_none_of X G blt3,W.mg_none_of X G blt4,W.mg_none_of X G blt5,W.mg_none_of X G blt6,W.mg_none_of X G blt7,W.mg_none_of X G blt8,W.mg_none_of X G blt9,W.mg_none_of X G blt10,W.mg_none_of X G blt11,W.mg_none_of X G blt12⟩;have FL:=u19;obtain⟨oc,od,kV,dc,pm,an,cd,ct,sl,rfl,_,_⟩:=id FL.ex;refine⟨W.fnOf "law" "law" (defArgs z8_) (defBody z8_) (defScope z8_) .none kV dc pm an cd ct,fun s v=>.of_eq rfl,fun base _ _=>?_⟩;have T0:=q26_ (P:=l.prog) (w:=w) (base:=base) ⟨_,_,u0,W.mg_of X G a0,SW.bd1 u0⟩ g;have T1:=q6_ (P:=l.prog) (w:=w) (base:=base) ⟨_,_,u1,W.mg_of X G a1,SW.bd1 u1⟩ g T0;have T2:=L_init (P:=l.prog) (w:=w) (base:=base) ⟨_,_,u2,⟨mk_Listener,a2,i2,kc_Listener⟩,W.mg_of X G q_Listener,SW.bd1 u2⟩ g;have T3:=q17_ (P:=l.prog) (w:=w) (base:=base) ⟨_,_,u3,W.mg_of X G a3,SW.bd2 u3⟩ T1;have T4:=L_has (P:=l.prog) (w:=w) (base:=base) ⟨_,_,u4,⟨a4,i4,u4.kp⟩,SW.bd2 u4⟩ g;have T5:=L_step (P:=l.prog) (w:=w) (base:=base) ⟨_,_,u5,⟨a5,i5,u5.kp⟩,SW.bd4 u5⟩ g T3 T4;have T6:=L_deed (P:=l.prog) (w:=w) (base:=base) ⟨_,_,u6,⟨a6,i6,u6.kp⟩,SW.bd2 u6⟩ g;have T7:=L_agrees (P:=l.prog) (w:=w) (base:=base) ⟨_,_,u7,⟨a7,i7,u7.kp⟩,SW.bd2 u7⟩ g T6 T5;have T8:=q2_ (P:=l.prog) (w:=w) (base:=base) ⟨_,_,u8,W.mg_of X G a8,SW.bd1 u8⟩ g T2 T7;have T9:=q19_ (P:=l.prog) (w:=w) (base:=base) ⟨_,_,u9,W.mg_of X G a9,SW.bd2 u9⟩;have T10:=q21_ (P:=l.prog) (w:=w) (base:=base) ⟨_,_,u10,W.mg_of X G a10,SW.bd1 u10⟩ g;have T11:=q24_ (P:=l.prog) (w:=w) (base:=base) ⟨_,_,u11,W.mg_of X G a11,SW.bd2 u11⟩ T9;have T12:=q27_ (P:=l.prog) (w:=w) (base:=base) ⟨_,_,u12,W.mg_of X G a12,SW.bd1 u12⟩ T11;have T13:=q20_ (P:=l.prog) (w:=w) (base:=base) ⟨_,_,u13,W.mg_of X G a13,SW.bd2 u13⟩ g T11;have T14:=q25_ (P:=l.prog) (w:=w) (base:=base) ⟨_,_,u14,W.mg_of X G a14,SW.bd3 u14⟩ g T11 T12;have T15:=q0_ (P:=l.prog) (w:=w) (base:=base) ⟨_,_,u15,W.mg_of X G a15,SW.bd1 u15⟩ g T11 T12;have T16:=q22_ (P:=l.prog) (w:=w) (base:=base) ⟨_,_,u16,W.mg_of X G a16,SW.bd3 u16⟩ g;have T17:=q1_ (P:=l.prog) (w:=w) (base:=base) ⟨_,_,u17,W.mg_of X G a17,SW.bd4 u17⟩ g T11 T16;have T18:=q23_ (P:=l.prog) (w:=w) (base:=base) ⟨_,_,u18,W.mg_of X G a18,SW.bd3 u18⟩ g T8 T11 T13 T14 T17;exact ok_law FL g T10 T15 T18
theorem walk{l:W.OpenLaw}{q:Program}{loose:List Str}{XP:(Str->Option Value)->Heap->Prop}{YP:World->Heap->Prop}{d:DefRec}{K:Params->W.Frag}(hn:l.most=some 63)(hdf:d.params.defaults=[])
 (hY:∀(w:World) (h:Heap),YP w h->(K w.params).In h)
 (F:∀(w:World) (mg:Str->Option Value) (fa:Addr) (h:Heap),(K w.params).In h->h.Ns mainGlobals mg->mg d.name=some (.ref fa) ->
  ∃ fd:FuncData,(∀(s:Shared) (u:Value),BindsTo s fd ⟨[u],[]⟩ [("script",u)]) /\ ∀ base:Heap,(K w.params).In base->base.Ns mainGlobals mg->FnOk l.prog w (K w.params) mg base CX0 8 fa fd ["script"] (spLaw (K w.params))) :
 W.WalkO q loose XP YP l.row.toRowW d [] (fun f vs=>PySem.call f vs):=
 L2.walk_of (n:=63) (k:=8) (x:="script") (CX:=fun _=>CX0) (sp:=fun w=>spLaw (K w.params)) hn (by decide) hdf ⟨rfl,by decide,by decide⟩ hY F (fun _ _ a ns hl _ hS=>⟨a,ns,rfl,hS,hl,fun _=>rfl⟩) fun _ _ _ _ _ z=>z
end
end
end K
open PySem PySem.W PyProof.Rows L2
local macro_rules | `(tactic| walk_at "F")=>`(tactic| (refine' L2.fun_mk ?l ?c ?k;(case l=>k_is);(case c=>k_is);(case k=>k_is)))
set_option maxRecDepth 100000 in
set_option maxHeartbeats 0 in
theorem PySem.Challenge.cw_slowshift_k32_where_walks_go_wrong_holds : PySem.Challenge.rw_slowshift_k32_where_walks_go_wrong.Holds := by
 w_on;o_law;z_head;(case hw=>w_witness2)
 k_fill
 refine SW.walkX (fun _=>by kernel_rfl) (K.walk (l:=PySem.Challenge.rw_slowshift_k32_where_walks_go_wrong) rfl rfl (fun w h Y=>Y) ?F)
 case F=>
  intro w mg fa h KX G hmg
  refine' K.all_mk KX G hmg ?q_Listener ?pg_Listener ?hd_Listener ?po_Listener ?sa_Listener ?mk_Listener ?kc_Listener ?na_Listener_worths ?na_Listener_cursor ?na_Listener_owed ?a0 ?u0 ?a1 ?u1 ?a2 ?i2 ?u2 ?a3 ?u3 ?a4 ?i4 ?u4 ?a5 ?i5 ?u5 ?a6 ?i6 ?u6 ?a7 ?i7 ?u7 ?a8 ?u8 ?a9 ?u9 ?a10 ?u10 ?a11 ?u11 ?a12 ?u12 ?a13 ?u13 ?a14 ?u14 ?a15 ?u15 ?a16 ?u16 ?a17 ?u17 ?a18 ?u18 ?a19 ?u19 ?cst0 ?blt0 ?blt1 ?blt2 ?blt3 ?blt4 ?blt5 ?blt6 ?blt7 ?blt8 ?blt9 ?blt10 ?blt11 ?blt12
  (case q_Listener=>k_is)
  (case pg_Listener=>k_is)
  (case hd_Listener=>k_is)
  (case po_Listener=>k_is)
  (case sa_Listener=>k_is)
  (case mk_Listener=>k_is)
  (case kc_Listener=>k_is)
  (case na_Listener_worths=>k_is)
  (case na_Listener_cursor=>k_is)
  (case na_Listener_owed=>k_is)
  (case a0=>k_is)
  (case u0=>walk_at "F")
  (case a1=>k_is)
  (case u1=>walk_at "F")
  (case a2=>k_is)
  (case i2=>k_is)
  (case u2=>walk_at "F")
  (case a3=>k_is)
  (case u3=>walk_at "F")
  (case a4=>k_is)
  (case i4=>k_is)
  (case u4=>walk_at "F")
  (case a5=>k_is)
  (case i5=>k_is)
  (case u5=>walk_at "F")
  (case a6=>k_is)
  (case i6=>k_is)
  (case u6=>walk_at "F")
  (case a7=>k_is)
  (case i7=>k_is)
  (case u7=>walk_at "F")
  (case a8=>k_is)
  (case u8=>walk_at "F")
  (case a9=>k_is)
  (case u9=>walk_at "F")
  (case a10=>k_is)
  (case u10=>walk_at "F")
  (case a11=>k_is)
  (case u11=>walk_at "F")
  (case a12=>k_is)
  (case u12=>walk_at "F")
  (case a13=>k_is)
  (case u13=>walk_at "F")
  (case a14=>k_is)
  (case u14=>walk_at "F")
  (case a15=>k_is)
  (case u15=>walk_at "F")
  (case a16=>k_is)
  (case u16=>walk_at "F")
  (case a17=>k_is)
  (case u17=>walk_at "F")
  (case a18=>k_is)
  (case u18=>walk_at "F")
  (case a19=>k_is)
  (case u19=>walk_at "F")
  (case cst0=>k_is)
  (case blt0=>k_is)
  (case blt1=>k_is)
  (case blt2=>k_is)
  (case blt3=>k_is)
  (case blt4=>k_is)
  (case blt5=>k_is)
  (case blt6=>k_is)
  (case blt7=>k_is)
  (case blt8=>k_is)
  (case blt9=>k_is)
  (case blt10=>k_is)
  (case blt11=>k_is)
  (case blt12=>k_is)

