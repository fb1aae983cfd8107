import PyProof.Rows.All
import Wide.All
import OpenK.AllK
import Wide.FinOn
import Lean
import PyProof.EqAt
import PyProof.EqKinds
import PyProof.TupleCall
import PySem.Challenge.RW_slowshift_k42_whole_states_of_any_sort_s
set_option Elab.async false
set_option linter.all false
set_option maxRecDepth 100000
set_option genSizeOf false
set_option genSizeOfSpec false
set_option genInjectivity false
set_option maxHeartbeats 4000000
namespace L2
open PySem PySem.Spec PyProof.Rows
noncomputable abbrev Key:=Sum Int Str
noncomputable def keyIs:Key->Value->Bool
 | .inl k,v=>Value.isInt k v
 | .inr x,v=>Value.isStrOf x v
noncomputable def keyH(w:World):Key->Int
 | .inl k=>hashInt k
 | .inr x=>hashStr w x
theorem keyIs_shape:∀{k:Key}{v:Value},keyIs k v=true->(∃ i t,k=Sum.inl i/\v=Value.int i t)∨(∃ x t,k=Sum.inr x/\v=Value.str x t)
 | .inl i,v,h=>by
   obtain⟨t,e⟩:=Value.isInt_shape (k:=i) (v:=v) h;exact .inl ⟨i,t,rfl,e⟩
 | .inr x,v,h=>by
   obtain⟨t,e⟩:=Value.isStrOf_shape (x:=x) (v:=v) h;exact .inr ⟨x,t,rfl,e⟩
theorem keyIs_int(i:Int)(t:Tok):keyIs (.inl i) (.int i t)=true:=by simp[keyIs,Value.isInt]
theorem keyIs_str(x:Str)(t:Tok):keyIs (.inr x) (.str x t)=true:=by simp[keyIs,Value.isStrOf]
theorem key_ll(a b:Int):decide ((Sum.inl a:Key)=Sum.inl b)=(a == b):=by
 by_cases e:a=b
 · subst e;simp
 have h:¬ (Sum.inl a:Key)=Sum.inl b:=fun q=>e (Sum.inl.inj q);rw[decide_eq_false h];exact(beq_eq_false_iff_ne.mpr e).symm
theorem key_rr(a b:Str):decide ((Sum.inr a:Key)=Sum.inr b)=decide (a=b):=by
 by_cases e:a=b
 · subst e;simp
 have h:¬ (Sum.inr a:Key)=Sum.inr b:=fun q=>e (Sum.inr.inj q);rw[decide_eq_false h,decide_eq_false e]
theorem key_lr(a:Int)(b:Str):decide ((Sum.inl a:Key)=Sum.inr b)=false:=decide_eq_false (fun q=>nomatch q)
theorem key_rl(a:Str)(b:Int):decide ((Sum.inr a:Key)=Sum.inl b)=false:=decide_eq_false (fun q=>nomatch q)
noncomputable def mixKind(prog:Program)(w:World):PySem.KeyKind prog w Key where
 is:=keyIs
 hash:=keyH w
 inj:=fun v a b ha hb=>by
  rcases keyIs_shape ha with ⟨i,t,rfl,rfl⟩ | ⟨x,t,rfl,rfl⟩
  · rcases keyIs_shape hb with ⟨j,u,rfl,e⟩ | ⟨y,u,rfl,e⟩
    · injection e with e1 _;rw[e1]
    exact nomatch e
  rcases keyIs_shape hb with ⟨j,u,rfl,e⟩ | ⟨y,u,rfl,e⟩
  · exact nomatch e
  injection e with e1 _;rw[e1]
 byValue:=fun k v h=>by
  rcases keyIs_shape h with ⟨i,t,rfl,rfl⟩ | ⟨x,t,rfl,rfl⟩ <;> rfl
 pyHash:=fun hv h=>by
  rcases keyIs_shape hv with ⟨i,t,rfl,rfl⟩ | ⟨x,t,rfl,rfl⟩
  · exact wpAny_pyHash_int h
  exact wpAny_pyHash_str h
 eqBool:=fun hu hv h=>by
  rcases keyIs_shape hu with ⟨i,t,rfl,rfl⟩ | ⟨x,t,rfl,rfl⟩
  · rcases keyIs_shape hv with ⟨j,u,rfl,rfl⟩ | ⟨y,u,rfl,rfl⟩
    · rw[key_ll]at h;exact wpAny_eqBool_int h
    rw[key_lr]at h;exact SeqAt.EqAt.int_str i t y u _ _ _ _ h
  rcases keyIs_shape hv with ⟨j,u,rfl,rfl⟩ | ⟨y,u,rfl,rfl⟩
  · rw[key_rl]at h;exact SeqAt.EqAt.str_int x t j u _ _ _ _ h
  rw[key_rr]at h;exact wpAny_eqBool_str h
 «strs»:=fun k x t v h=>by
  rcases keyIs_shape h with ⟨i,u,rfl,e⟩ | ⟨y,u,rfl,e⟩
  · exact nomatch e
  injection e with e1 _;subst e1;cases v <;> rfl
theorem mixKind_int(prog:Program)(w:World)(i:Int)(t:Tok):(mixKind prog w).is (.inl i) (.int i t)=true:=keyIs_int i t
theorem mixKind_str(prog:Program)(w:World)(x:Str)(t:Tok):(mixKind prog w).is (.inr x) (.str x t)=true:=keyIs_str x t
end L2
namespace L2
open PySem PySem.Spec PyProof.Rows
set_option genInjectivity true in
inductive V where
 | non | bl (b:Bool) | int (i:Int) | str (x:Str) | byt (b:Array UInt8) | flt (b:UInt64) | ref (a:Addr) | ty (n:String)
 deriving DecidableEq
noncomputable def RelV:V->Value->Prop
 | .non,u=>u=Value.none
 | .bl b,u=>u=Value.bool b
 | .int i,u=>∃ t,u=Value.int i t
 | .str x,u=>∃ t,u=Value.str x t
 | .byt b,u=>∃ t,u=Value.bytes b t
 | .flt b,u=>∃ t,u=Value.float b t
 | .ref a,u=>u=Value.ref a
 | .ty n,u=>u=Value.type n
noncomputable abbrev Vals:List V->List Value->Prop:=Paired RelV
theorem Vals.length{xs:List V}{us:List Value}(r:Vals xs us):xs.length=us.length:=Paired.length r
theorem Vals.get:∀{xs:List V}{us:List Value}{i:Nat}{x:V},Vals xs us->xs[i]?=some x -> ∃ u,us[i]?=some u/\RelV x u
 | _,_,_,_,.nil,e=>by simp at e
 | _,_,0,_,.cons r _,e=>by simp at e;subst e;exact⟨_,rfl,r⟩
 | _,_,i+1,x,.cons _ t,e=>by
   obtain⟨u,h1,h2⟩:=Vals.get (i:=i) (x:=x) t (by simpa using e)
   exact⟨u,by simpa using h1,h2⟩
theorem Vals.set{x:V}{u:Value}(r:RelV x u):∀{xs:List V}{us:List Value} (i:Nat),Vals xs us->Vals (xs.set i x) (us.set i u)
 | _,_,_,.nil=>.nil
 | _,_,0,.cons _ t=>.cons r t
 | _,_,i+1,.cons q t=>.cons q (Vals.set r i t)
theorem Vals.append:∀{xs ys:List V}{us ws:List Value},Vals xs us->Vals ys ws->Vals (xs++ys) (us++ws)
 | _,_,_,_,.nil,s=>s
 | _,_,_,_,.cons r t,s=>.cons r (Vals.append t s)
theorem Vals.take:∀{xs:List V}{us:List Value} (n:Nat),Vals xs us->Vals (xs.take n) (us.take n)
 | _,_,0,_=>.nil
 | _,_,_+1,.nil=>.nil
 | _,_,n+1,.cons r t=>.cons r (Vals.take n t)
theorem Vals.drop:∀{xs:List V}{us:List Value} (n:Nat),Vals xs us->Vals (xs.drop n) (us.drop n)
 | _,_,0,r=>r
 | _,_,_+1,.nil=>.nil
 | _,_,n+1,.cons _ t=>Vals.drop n t
noncomputable def RelO:Option V->Option Value->Prop
 | some v,some u=>RelV v u
 | none,none=>True
 | _,_=>False
noncomputable def KV{κ:Type}:List (κ × V)->List (κ × Value)->Prop:=Paired fun(p:κ × V) (q:κ × Value)=>p.1=q.1/\RelV p.2 q.2
noncomputable def kV:Key->V
 | .inl i=>.int i
 | .inr x=>.str x
inductive HO where
 | lst (xs:List V)
 | tup (xs:List V)
 | dK (kvs:List (Key×V)) | dT (kvs:List (List Key×V))
 | set (S:Int->Bool) (n:Nat)
 | ins (C dx:Addr) (fs:List (Str×V))
 | own (x:Addr)
 | xd (fs:List (Str×V))
 | met (f x:Addr)
 | rng (lo hi:Int)
 | frz (o:Obj) (u:HO)
 | tbl (ps:Array Value)
 | ext (φ:Heap->Prop)
noncomputable abbrev Hp:=Addr->Option HO
noncomputable def upd(H:Hp)(a:Addr)(o:HO):Hp:=fun b=>if b=a then some o else H b
theorem upd_same{H:Hp}{a:Addr}{o:HO}:upd H a o a=some o:=by unfold upd;rw[if_pos rfl]
theorem upd_ne{H:Hp}{a b:Addr}{o:HO}(h:b≠a):upd H a o b=H b:=by unfold upd;rw[if_neg h]
theorem upd_upd{H:Hp}{a:Addr}{o u:HO}:upd (upd H a o) a u=upd H a u:=by
 funext b;unfold upd;split <;> rfl
theorem ne_of{H:Hp}{a b:Addr}{o u:HO}(h:H a=some o)(h':H b=some u)(d:o≠u):a≠b:=by
 intro e;subst e;rw[h]at h';exact d (Option.some.inj h')
theorem ne_of_none{H:Hp}{a b:Addr}{o:HO}(h:H a=some o)(h':H b=none):a≠b:=by
 intro e;subst e;rw[h]at h';cases h'
section
variable(P:Program)(w:World)
noncomputable def ObjOk(H:Hp)(h:Heap)(a:Addr):HO->Prop
 | .lst xs=>xs.length<=sizeLine /\ ∃(its:List Value) (n:Nat),Vals xs its/\h.get? a=some { cls:=.type "list",data:=.seq its.toArray n }
 | .tup xs=>xs.length<=sizeLine /\ ∃ its:List Value,Vals xs its/\IsTup h a its.toArray
 | .dK kvs=>kvs.length<=sizeLine/\(a == sysModules)=false /\ ∃ vs,KV kvs vs/\h.DictOf (mixKind P w) a vs
 | .dT kvs=>kvs.length<=sizeLine/\(a == sysModules)=false /\ ∃ xs:List (List Key×Addr×Value),
  Paired (fun(p:List Key×V) (q:List Key×Addr×Value)=>p.1=q.1/\H q.2.1=some (.tup (p.1.map kV))/\RelV p.2 q.2.2) kvs xs /\
  ∃ o es ep,h.get? a=some o/\o.ExactDict/\o.data=.dict es ep/\es.toList=xs.map (entryOfKey (tupleKind (mixKind P w)))/\(xs.map (·.1)).Nodup
 | .set S n=>h.SetOf (intKind P w) a S n
 | .ins C dx fs=>H dx=some (.own a)/\fs.length<=1000/\dx≠a/\h.get? a=some (W.instObj C dx) /\
  ∃ mA,h.Ns1 dx mA/\(∀ f,RelO (fs.lookup f) (mA f))/\PySem.Within mA (fs.map (·.1))
 | .own _=>∃ o,h.get? a=some o
 | .xd fs=>∃ mA,h.Ns1 a mA /\ ∀ f,RelO (fs.lookup f) (mA f)
 | .rng lo hi=>∃ t u v,h.get? a=some { cls:=.type "range",data:=.fields #[.int lo t,.int hi u,.int 1 v] }
 | .frz o u=>h.get? a=some o/\ObjOk H h a u
 | .tbl ps=>h.get? a=some { cls:=.none,data:=.fields ps }
 | .met f x=>h.get? a=some (W.methodObj (.ref f) (.ref x))
 | .ext φ=>φ h/\(∃ o,h.get? a=some o) /\ ∀ h1 h2:Heap,φ h1->(∀ o,h1.get? a=some o->h2.get? a=some o) -> φ h2
noncomputable def HOk(H:Hp)(h:Heap):Prop:=∀ a o,H a=some o->ObjOk P w H h a o
end
section
variable{P:Program}{w:World}{H H':Hp}{h h':Heap}{a:Addr}{o:HO}
theorem ObjOk.lt(x:ObjOk P w H h a o):a < h.objs.size:=by
 cases o with
 | lst xs=>obtain⟨_,_,_,_,e⟩:=x;exact Heap.lt_size e
 | tup xs=>obtain⟨_,_,_,p⟩:=x;exact p.lt
 | dK kvs=>obtain⟨_,_,_,_,o,_,_,e,_⟩:=x;exact Heap.lt_size e
 | dT kvs=>obtain⟨_,_,_,_,o,_,_,e,_⟩:=x;exact Heap.lt_size e
 | set S n=>obtain⟨o,_,_,_,e,_⟩:=x;exact Heap.lt_size e
 | ins C dx fs=>obtain⟨_,_,_,e,_⟩:=x;exact Heap.lt_size e
 | own y=>obtain⟨_,e⟩:=x;exact Heap.lt_size e
 | xd fs=>obtain⟨_,⟨_,_,_,e,_⟩,_⟩:=x;exact Heap.lt_size e
 | rng lo hi=>obtain⟨_,_,_,e⟩:=x;exact Heap.lt_size e
 | frz ob u=>obtain⟨e,_⟩:=x;exact Heap.lt_size e
 | tbl ps=>exact Heap.lt_size (show h.get? a=some _ from x)
 | met f y=>exact Heap.lt_size (show h.get? a=some _ from x)
 | ext φ=>obtain⟨_,⟨_,e⟩,_⟩:=x;exact Heap.lt_size e
theorem Paired.mapP{α β:Type}{F G:α -> β -> Prop}:∀{l₁:List α}{l₂:List β},Paired F l₁ l₂ -> (∀ a b,F a b->G a b)->Paired G l₁ l₂
 | _,_,.nil,_=>.nil
 | _,_,.cons r t,f=>.cons (f _ _ r) (Paired.mapP t f)
theorem ObjOk.stay(x:ObjOk P w H h a o)(k:∀ b u,(b=a∨H b=some (.own a))->h.get? b=some u->h'.get? b=some u)
 (ho:∀ b,H b=some (.own a)->H' b=some (.own a)) (ht:∀ b xs,H b=some (.tup xs)->H' b=some (.tup xs)):ObjOk P w H' h' a o:=by
 induction o with
 | lst xs=>obtain⟨z,its,n,r,e⟩:=x;exact⟨z,its,n,r,k _ _ (.inl rfl) e⟩
 | tup xs=>obtain⟨z,its,r,ob,e,c⟩:=x;exact⟨z,its,r,ob,k _ _ (.inl rfl) e,c⟩
 | dK kvs=>obtain⟨z,y,vs,r,ob,es,ep,e,c⟩:=x;exact⟨z,y,vs,r,ob,es,ep,k _ _ (.inl rfl) e,c⟩
 | dT kvs=>
   obtain⟨z,y,xs,r,ob,es,ep,e,c⟩:=x;exact⟨z,y,xs,Paired.mapP r fun p q z=>⟨z.1,ht _ _ z.2.1,z.2.2⟩,ob,es,ep,k _ _ (.inl rfl) e,c⟩
 | set S n=>obtain⟨ob,es,ep,t,e,c⟩:=x;exact⟨ob,es,ep,t,k _ _ (.inl rfl) e,c⟩
 | ins C dx fs=>
   obtain⟨d,z,ne,e,mA,⟨od,es,ep,e2,c⟩,r⟩:=x;exact⟨ho _ d,z,ne,k _ _ (.inl rfl) e,mA,⟨od,es,ep,k _ _ (.inr d) e2,c⟩,r⟩
 | own y=>obtain⟨ob,e⟩:=x;exact⟨ob,k _ _ (.inl rfl) e⟩
 | xd fs=>obtain⟨mA,⟨od,es,ep,e,c⟩,r⟩:=x;exact⟨mA,⟨od,es,ep,k _ _ (.inl rfl) e,c⟩,r⟩
 | rng lo hi=>obtain⟨t,u,v,e⟩:=x;exact⟨t,u,v,k _ _ (.inl rfl) e⟩
 | frz ob u ih=>obtain⟨e,q⟩:=x;exact⟨k _ _ (.inl rfl) e,ih q⟩
 | tbl ps=>
   have e:h.get? a=some { cls:=.none,data:=.fields ps }:=x;show h'.get? a=some { cls:=.none,data:=.fields ps };exact k a _ (.inl rfl) e
 | met f y=>
   have e:h.get? a=some (W.methodObj (.ref f) (.ref y)):=x;show h'.get? a=some (W.methodObj (.ref f) (.ref y));exact k a _ (.inl rfl) e
 | ext φ=>obtain⟨p,⟨o,e⟩,st⟩:=x;exact⟨st _ _ p fun o q=>k _ _ (.inl rfl) q,⟨o,k _ _ (.inl rfl) e⟩,st⟩
theorem HOk.lt(x:HOk P w H h)(e:H a=some o):a < h.objs.size:=(x a o e).lt
theorem HOk.fresh(x:HOk P w H h)(e:h.objs.size<=a):H a=none:=by
 cases q:H a with
 | none=>rfl
 | some u=>exact absurd (Nat.lt_of_lt_of_le (x.lt q) e) (Nat.lt_irrefl _)
theorem HOk.kept(x:HOk P w H h)(k:∀ b u,h.get? b=some u->h'.get? b=some u):HOk P w H h':=fun a o e=>
 (x a o e).stay (fun b u _ q=>k b u q) (fun _ q=>q) fun _ _ q=>q
theorem HOk.laid(x:HOk P w H h)(k:∀ b u,h.get? b=some u->h'.get? b=some u)(hp:h.objs.size<=a)(new:ObjOk P w (upd H a o) h' a o):HOk P w (upd H a o) h':=fun b u e=>by
 have hn:=x.fresh hp;by_cases hb:b=a
 · subst hb;rw[upd_same]at e;cases e;exact new
 rw[upd_ne hb]at e;exact(x b u e).stay (fun c v _ q=>k c v q) (fun c q=>by rw[upd_ne (ne_of_none q hn)];exact q) fun c xs q=>by rw[upd_ne (ne_of_none q hn)];exact q
end
noncomputable def Rd(H:Hp)(a:Addr)(u:HO):Prop:=H a=some u ∨ ∃ o,H a=some (.frz o u)
theorem Rd.ok{P:Program}{w:World}{H:Hp}{h:Heap}{a:Addr}{u:HO}(r:Rd H a u)(x:HOk P w H h):ObjOk P w H h a u:=by
 rcases r with r | ⟨o,r⟩
 · exact x a u r
 obtain⟨_,q⟩:=x a _ r;exact q
noncomputable def Mut:Option HO->Prop
 | some (.lst _)=>True
 | some (.dK _)=>True
 | some (.dT _)=>True
 | some (.set _ _)=>True
 | some (.ins _ _ _)=>True
 | some (.ext _)=>True
 | _=>False
section
variable{P:Program}{w:World}{H:Hp}{h h':Heap}{x e:Addr}{o':HO}
theorem HOk.write(ok:HOk P w H h)(mu:Mut (H x))(he:e=x∨H e=some (.own x))(k:∀ b u,b≠e->h.get? b=some u->h'.get? b=some u)(heo:∃ u,h'.get? e=some u)
 (new:ObjOk P w (upd H x o') h' x o'):HOk P w (upd H x o') h':=fun b u q=>by
 have nown:∀ c y,H c=some (.own y)->c≠x:=fun c y r z=>by subst z;rw[r]at mu;exact mu
 have ntup:∀ c xs,H c=some (.tup xs)->c≠x:=fun c xs r z=>by subst z;rw[r]at mu;exact mu
 by_cases hb:b=x
 · subst hb;rw[upd_same]at q;cases q;exact new
 rw[upd_ne hb]at q;by_cases hbe:b=e
 · have q':H b=some (.own x):=by
    rcases he with z | z
    · exact absurd (hbe.trans z) hb
    rw[hbe];exact z
   rw[q]at q';cases q';obtain⟨v,hv⟩:=heo;exact⟨v,by rw[hbe];exact hv⟩
 refine(ok b u q).stay (fun c v hc r=>k c v ?_ r) (fun c r=>by rw[upd_ne (nown c b r)];exact r) fun c xs r=>by rw[upd_ne (ntup c xs r)];exact r
 rcases hc with rfl | hc
 · exact hbe
 rintro rfl;rcases he with z | z
 · exact nown c b hc z
 rw[hc]at z;cases z;exact hb rfl
end
structure Un(fs ex:List Addr)(H H':Hp)(h h':Heap):Prop where
 keep:∀ b o,h.get? b=some o->H b=none->b∉fs->b∉ex->h'.get? b=some o
 slot:∀ b o,h.get? b=some o->H b=none->b∈fs->b∉ex -> ∃ sl,h'.get? b=some { o with slots:=sl }
 free:∀ b o,h.get? b=some o->H b=none->b∉ex->H' b=none
 there:∀ b o,h.get? b=some o->b∉ex -> ∃ o',h'.get? b=some o'
 tups:∀ b xs,H b=some (.tup xs)->H' b=some (.tup xs)
 frzs:∀ b o u,H b=some (.frz o u)->H' b=some (.frz o u)
 tbls:∀ b ps,H b=some (.tbl ps) -> ∃ more,H' b=some (.tbl (ps++more))
section
variable{fs fs' ex ex':List Addr}{H H1 H2:Hp}{h h1 h2 h':Heap}{a x e:Addr}{o:HO}
theorem Un.any(u:Un fs ex H H1 h h1){b:Addr}{ob:Obj}(q:h.get? b=some ob)(n:H b=none)(hx:b∉ex):∃ sl,h1.get? b=some { ob with slots:=sl }:=by
 by_cases hb:b∈fs
 · exact u.slot b ob q n hb hx
 exact⟨ob.slots,u.keep b ob q n hb hx⟩
theorem Un.kept(k:∀ b u,h.get? b=some u->h'.get? b=some u):Un fs ex H H h h':=
 ⟨fun b ob q _ _ _=>k b ob q,fun b ob q _ _ _=>⟨ob.slots,k b ob q⟩,fun _ _ _ n _=>n,fun b ob q _=>⟨ob,k b ob q⟩,fun _ _ q=>q,fun _ _ _ q=>q,fun _ ps q=>⟨#[],by rw[q];simp⟩⟩
theorem Un.refl:Un fs ex H H h h:=Un.kept fun _ _ q=>q
theorem Un.laid(k:∀ b u,h.get? b=some u->h'.get? b=some u)(hp:h.objs.size<=a)(hn:H a=none):Un fs ex H (upd H a o) h h' where
 keep:=fun b u q _ _ _=>k b u q
 slot:=fun b u q _ _ _=>⟨u.slots,k b u q⟩
 free:=fun b u q n _=>by rw[upd_ne (Nat.ne_of_lt (Nat.lt_of_lt_of_le (Heap.lt_size q) hp))];exact n
 there:=fun b u q _=>⟨u,k b u q⟩
 tups:=fun b xs q=>by rw[upd_ne (ne_of_none q hn)];exact q
 frzs:=fun b u xs q=>by rw[upd_ne (ne_of_none q hn)];exact q
 tbls:=fun b ps q=>⟨#[],by rw[upd_ne (ne_of_none q hn),q];simp⟩
theorem Un.write(mu:Mut (H x))(he:e=x∨H e=some (.own x))(k:∀ b u,b≠e->h.get? b=some u->h'.get? b=some u)(heo:∃ u,h'.get? e=some u):Un fs ex H (upd H x o) h h':=by
 have hx:∀ b,H b=none->b≠x:=fun b n z=>by subst z;rw[n]at mu;exact mu
 have hb:∀ b,H b=none->b≠e:=fun b n z=>by
  subst z;rcases he with r | r
  · exact hx b n r
  rw[n]at r;cases r
 have hm:∀ b u,H b=some u -> ¬ Mut (some u)->b≠x:=fun b u q nm z=>by subst z;rw[q]at mu;exact nm mu
 refine⟨fun b u q n _ _=>k b u (hb b n) q,fun b u q n _ _=>⟨u.slots,k b u (hb b n) q⟩,fun b u q n _=>by rw[upd_ne (hx b n)];exact n,fun b u q _=>?_,
  fun b xs q=>by rw[upd_ne (hm b _ q fun z=>z)];exact q,fun b u xs q=>by rw[upd_ne (hm b _ q fun z=>z)];exact q,fun b ps q=>⟨#[],by rw[upd_ne (hm b _ q fun z=>z),q];simp⟩⟩
 by_cases hbe:b=e
 · subst hbe;exact heo
 exact⟨u,k b u hbe q⟩
end
noncomputable def trk(h:Heap)(H:Hp):List Addr:=(List.range h.objs.size).filter fun a=>(H a).isSome
noncomputable def hidT(h:Heap)(H:Hp):Heap:=W.hideAll h (trk h H)
theorem hidT_size(h:Heap)(H:Hp):(hidT h H).objs.size=h.objs.size:=W.hideAll_size _ _
theorem hidT_get{h:Heap}{H:Hp}{b:Addr}{o:Obj}(e:h.get? b=some o)(n:H b=none):(hidT h H).get? b=some o:=
 W.hideAll_get _ e fun hm=>by
  have q:(H b).isSome=true:=(List.mem_filter.mp hm).2;rw[n]at q;simp at q
theorem of_hidT{h:Heap}{H:Hp}{b:Addr}{o:Obj}(e:(hidT h H).get? b=some o):h.get? b=some o/\H b=none:=by
 have e':h.get? b=some o:=W.of_hideAll (trk h H) e;refine⟨e',?_⟩;cases q:H b with
 | none=>rfl
 | some x=>
   have hm:b∈trk h H:=List.mem_filter.mpr ⟨List.mem_range.mpr (Heap.lt_size e'),by simp[q]⟩
   have z:(hidT h H).get? b=none:=W.hideAll_none (trk h H) hm;rw[z]at e;cases e
end L2
namespace L2
open PySem PySem.Spec PyProof.Rows
structure Mod(K:W.Frag)(mg:Str->Option Value)(base:Heap):Prop where
 kin:K.In base
 glob:base.Ns mainGlobals mg
 blt:∃ mb,base.Ns builtinsNs mb /\ ∀ x:Str,x ≠ "__name__" -> mb x=bootBuiltins x
 nolimit:base.NoLimit
structure Cx where
 prog:Program
 w:World
 K:W.Frag
 mg:Str->Option Value
 base:Heap
 A:Around
 N:List Str
 s₀:Shared
 H₀:Hp
 env:Env
 outer:List Env
 stack:List Env
 ex:List Addr
 fn:Str->Bool
 calm:Bool
 pn:List (Addr×Obj)
 xe:Value->Shared->Prop
noncomputable def frs(l:List Env):List Addr:=l.filterMap (·.frame)
noncomputable abbrev Cx.fs(X:Cx):List Addr:=frs X.outer
noncomputable def Vis(sc:Scope)(x:Str):Prop:=sc.names.lookup x=some .local∨sc.names.lookup x=some .cell∨sc.names.lookup x=some .free
noncomputable def Loc(sc:Scope)(x:Str):Prop:=sc.names.lookup x=some .local∨sc.names.lookup x=some .cell
noncomputable def Look(env:Env)(h:Heap)(m:Str->Option Value)(x:Str)(u:Value):Prop:=
 (env.kindOf x=some .local/\m x=some u)∨((env.kindOf x=some .cell∨env.kindOf x=some .free) /\ ∃ c,env.cells.lookup x=some c/\h.IsCell c (some u))
structure Cx.Ok(X:Cx):Prop where
 mod:Mod X.K X.mg X.base
 kind:X.env.scope.kind=.function
 glob:X.env.globals=mainGlobals
 blt:X.env.builtins=builtinsNs
 above:X.s₀.heap.objs.size<=X.env.locals
 inj:∀ x y c,X.env.cells.lookup x=some c->X.env.cells.lookup y=some c->x=y
 has:∀ x,(X.env.kindOf x=some .cell∨X.env.kindOf x=some .free) -> ∃ c,X.env.cells.lookup x=some c
 cab:∀ x c,X.fn x=true->X.env.cells.lookup x=some c->X.s₀.heap.objs.size<=c
 hd:X.calm=true->X.A.handled=none
 frames:X.A.frames=some X.stack
 stk:X.stack=X.outer∨(X.stack=X.env::X.outer/\X.env.frame=some X.env.locals)
 exf:∀ b∈X.ex,b≠X.env.locals /\ ∀ x c,X.env.cells.lookup x=some c->c≠b
 bs:∀ b o,X.base.get? b=some o->X.s₀.heap.get? b=some o/\X.H₀ b=none
 bsz:X.base.objs.size<=X.s₀.heap.objs.size
 noex:∀ b o,X.base.get? b=some o->b∉X.ex
 exfs:∀ b∈X.ex,b∉X.fs
 funs:X.s₀.heap.FunFrames X.base X.outer
 frf:∀ b∈X.fs,X.H₀ b=none
structure Inv(X:Cx)(pins:List (Addr×Obj))(σ:List (Option V))(H:Hp)(s:Shared):Prop where
 ok:X.Ok
 os:s.os=X.s₀.os
 bare:AllBare s.gens
 base:Un X.fs X.ex X.H₀ H X.s₀.heap s.heap
 loc:∃ m,s.heap.Ns X.env.locals m /\ ∀(i:Nat) (x:Str) (v:V),X.N[i]?=some x -> σ[i]?=some (some v)->Vis X.env.scope x -> ∃ u,RelV v u/\Look X.env s.heap m x u
 cell:∀ x c,X.env.cells.lookup x=some c -> ∃ v,s.heap.IsCell c v
 free:H X.env.locals=none
 freeC:∀ x c,X.env.cells.lookup x=some c->H c=none
 pin:∀ p∈X.pn++pins,s.heap.get? p.1=some p.2/\H p.1=none/\p.1≠X.env.locals/\p.1∉X.fs /\ ∀ v,p.2.data ≠ .cell v
 hok:HOk X.prog X.w H s.heap
 len:σ.length=X.N.length
section
variable{X:Cx}{pins:List (Addr×Obj)}{σ:List (Option V)}{H H':Hp}{s:Shared}{h':Heap}
theorem Cx.Ok.nofr(ok:X.Ok){b:Addr}{o:Obj}(e:X.base.get? b=some o):b∉X.fs:=fun hb=>by
 have:=(ok.funs.mem hb).1;rw[e]at this;cases this
theorem Inv.bs(I:Inv X pins σ H s):∀ b o,X.base.get? b=some o->s.heap.get? b=some o/\H b=none:=fun b o e=>
 ⟨I.base.keep b o (I.ok.bs b o e).1 (I.ok.bs b o e).2 (I.ok.nofr e) (I.ok.noex b o e),I.base.free b o (I.ok.bs b o e).1 (I.ok.bs b o e).2 (I.ok.noex b o e)⟩
theorem Inv.bk(I:Inv X pins σ H s):∀ b o,X.base.get? b=some o->s.heap.get? b=some o:=fun b o e=>(I.bs b o e).1
theorem Inv.mod(I:Inv X pins σ H s):Mod X.K X.mg X.base:=I.ok.mod
theorem Inv.kIn(I:Inv X pins σ H s):X.K.In s.heap:=I.ok.mod.kin.keeps I.bk
theorem Inv.lt(I:Inv X pins σ H s):X.env.locals < s.heap.objs.size:=let⟨_,hn,_⟩:=I.loc;hn.lt
theorem Inv.sz(I:Inv X pins σ H s):X.s₀.heap.objs.size<=s.heap.objs.size:=Nat.le_trans I.ok.above (Nat.le_of_lt I.lt)
theorem Inv.nofs(I:Inv X pins σ H s){a:Addr}(h:s.heap.objs.size<=a):a∉X.fs:=fun hb=>by
 obtain⟨_,o,ho,_⟩:=I.ok.funs.mem hb;exact absurd (Nat.lt_of_lt_of_le (Heap.lt_size ho) (Nat.le_trans I.sz h)) (Nat.lt_irrefl _)
theorem Inv.cne(I:Inv X pins σ H s):∀ x c,X.env.cells.lookup x=some c->c≠X.env.locals:=fun x c e z=>by
 obtain⟨v,o,ho,hd⟩:=I.cell x c e;obtain⟨m,⟨o',es,ep,ho',hd',_⟩,_⟩:=I.loc;rw[z,ho']at ho;cases ho;rw[hd']at hd;cases hd
theorem Inv.funs(I:Inv X pins σ H s):s.heap.FunFrames X.base X.outer:=by
 have all:∀(l:List Env),(∀ b∈frs l,b∈X.fs)->X.s₀.heap.FunFrames X.base l->s.heap.FunFrames X.base l:=by
  intro l
  induction l with
  | nil=>intro _ _;trivial
  | cons env r ih=>
    intro hs hl;obtain⟨hk,⟨L,o,hf,hn,ho,hd⟩,hr⟩:=hl;have hL:L∈X.fs:=hs L (by unfold frs;rw[List.filterMap_cons,hf];exact List.mem_cons_self)
    obtain⟨sl,e⟩:=I.base.slot L o ho (I.ok.frf L hL) hL fun z=>I.ok.exfs L z hL;exact⟨hk,⟨L,_,hf,hn,e,hd⟩,ih (fun b hb=>hs b (by unfold frs;rw[List.filterMap_cons,hf];exact List.mem_cons_of_mem _ hb)) hr⟩
 exact all X.outer (fun _ hb=>hb) I.ok.funs
theorem Inv.stack(I:Inv X pins σ H s):s.heap.FunFrames X.base X.stack:=by
 rcases I.ok.stk with e | ⟨e,hf⟩
 · rw[e];exact I.funs
 rw[e];obtain⟨m,hn,_⟩:=I.loc;refine .cons (by rw[I.ok.kind];decide) hf hn ?_ I.funs
 exact Heap.get?_none_of_le (Nat.le_trans I.ok.bsz I.ok.above)
theorem Inv.stkSub(I:Inv X pins σ H s):∀ b∈frs X.stack,b∈X.env.locals::X.fs:=fun b hb=>by
 rcases I.ok.stk with e | ⟨e,hf⟩
 · rw[e]at hb;exact List.mem_cons_of_mem _ hb
 rw[e]at hb;unfold frs at hb;rw[List.filterMap_cons,hf]at hb;exact hb
theorem Inv.stkFree(I:Inv X pins σ H s):∀ b∈frs X.stack,H b=none:=fun b hb=>by
 rcases List.mem_cons.mp (I.stkSub b hb)with e | hb
 · rw[e];exact I.free
 obtain⟨_,o,ho,_⟩:=I.ok.funs.mem hb;exact I.base.free b o ho (I.ok.frf b hb) fun z=>I.ok.exfs b z hb
theorem Inv.step{g':Array GenState}{t':Nat}{d':Drawn}{ch:List Addr}(I:Inv X pins σ H s)
 (hch:∀ b∈ch,(b∈X.ex∨X.s₀.heap.objs.size<=b)/\b≠X.env.locals/\(∀ x c,X.env.cells.lookup x=some c->c≠b) /\ ∀ p∈X.pn++pins,p.1≠b)
 (keep:∀ b o,b≠X.env.locals->b∉X.fs->b∉ch->s.heap.get? b=some o->H b=none->h'.get? b=some o)
 (slot:∀ b o,b≠X.env.locals->b∈X.fs->b∉ch->s.heap.get? b=some o->H b=none -> ∃ sl,h'.get? b=some { o with slots:=sl }) (free:∀ b o,b∉ch->s.heap.get? b=some o->H b=none->H' b=none)
 (there:∀ b o,b∉ch->s.heap.get? b=some o -> ∃ o',h'.get? b=some o')
 (tups:∀ b xs,H b=some (.tup xs)->H' b=some (.tup xs)) (frzs:∀ b o u,H b=some (.frz o u)->H' b=some (.frz o u)) (tbls:∀ b ps,H b=some (.tbl ps) -> ∃ more,H' b=some (.tbl (ps++more)))
 (ns:∀ m,s.heap.Ns X.env.locals m->h'.Ns X.env.locals m) (hok:HOk X.prog X.w H' h') (hg:AllBare g') :
 Inv X pins σ H' { s with heap:=h',gens:=g',drawn:=d',toks:=t' }:=by
 have neL:∀ b o,X.s₀.heap.get? b=some o->b≠X.env.locals:=fun b o e=>Nat.ne_of_lt (Nat.lt_of_lt_of_le (Heap.lt_size e) I.ok.above);have neC:∀ b o,X.s₀.heap.get? b=some o->b∉X.ex->b∉ch:=fun b o e hx hb=>by
  rcases(hch b hb).1 with z | z
  · exact hx z
  exact absurd (Nat.lt_of_lt_of_le (Heap.lt_size e) z) (Nat.lt_irrefl _)
 have cellK:∀ x c,X.env.cells.lookup x=some c -> ∀ v,s.heap.IsCell c v->h'.IsCell c v:=fun x c e v ⟨o,ho,hd⟩=>by
  have nch:c∉ch:=fun z=>(hch c z).2.2.1 x c e rfl;by_cases hc:c∈X.fs
  · obtain⟨sl,q⟩:=slot c o (I.cne x c e) hc nch ho (I.freeC x c e)
    exact⟨_,q,hd⟩
  exact⟨o,keep c o (I.cne x c e) hc nch ho (I.freeC x c e),hd⟩
 refine⟨I.ok,I.os,hg,⟨fun b o e n hb hx=>?_,fun b o e n hb hx=>?_,fun b o e n hx=>?_,fun b o e hx=>?_,fun b xs e=>tups b xs (I.base.tups b xs e),fun b o xs e=>frzs b o xs (I.base.frzs b o xs e),fun b ps e=>?_⟩,?_,fun x c e=>?_,?_,fun x c e=>?_,fun p hp=>?_,hok,I.len⟩
 · exact keep b o (neL b o e) hb (neC b o e hx) (I.base.keep b o e n hb hx) (I.base.free b o e n hx)
 · obtain⟨sl,e1⟩:=I.base.slot b o e n hb hx
   obtain⟨sl',e2⟩:=slot b _ (neL b o e) hb (neC b o e hx) e1 (I.base.free b o e n hx);exact⟨sl',e2⟩
 · obtain⟨o',e1⟩:=I.base.there b o e hx
   exact free b o' (neC b o e hx) e1 (I.base.free b o e n hx)
 · obtain⟨o',e1⟩:=I.base.there b o e hx
   exact there b o' (neC b o e hx) e1
 · obtain⟨m1,e1⟩:=I.base.tbls b ps e
   obtain⟨m2,e2⟩:=tbls b _ e1;exact⟨m1++m2,by rw[e2,Array.append_assoc]⟩
 · obtain⟨m,hn,hl⟩:=I.loc
   refine⟨m,ns m hn,fun i x v e1 e2 e3=>?_⟩;obtain⟨u,r,l⟩:=hl i x v e1 e2 e3;refine⟨u,r,?_⟩;rcases l with l | ⟨k,c,e,z⟩
   · exact .inl l
   exact .inr ⟨k,c,e,cellK x c e _ z⟩
 · obtain⟨v,z⟩:=I.cell x c e
   exact⟨v,cellK x c e v z⟩
 · obtain⟨m,⟨o,_,_,ho,_⟩,_⟩:=I.loc
   exact free _ o (fun z=>(hch _ z).2.1 rfl) ho I.free
 · obtain⟨v,o,ho,hd⟩:=I.cell x c e
   exact free c o (fun z=>(hch c z).2.2.1 x c e rfl) ho (I.freeC x c e)
 obtain⟨e,n,ne,nf,d⟩:=I.pin p hp;have nch:p.1∉ch:=fun z=>(hch p.1 z).2.2.2 p hp rfl;exact⟨keep p.1 p.2 ne nf nch e n,free p.1 p.2 nch e n,ne,nf,d⟩
theorem Inv.un{t':Nat}(I:Inv X pins σ H s)(u:Un X.fs [] H H' s.heap h')(hok:HOk X.prog X.w H' h'):Inv X pins σ H' { s with heap:=h',toks:=t' }:=by
 obtain⟨m,⟨o,es,ep,ho,r⟩,_⟩:=id I.loc;obtain⟨sl,hL⟩:=u.any ho I.free (by simp)
 exact I.step (g':=s.gens) (d':=s.drawn) (ch:=[]) (fun _ z=>nomatch z) (fun b o _ hb _ e n=>u.keep b o e n hb (by simp)) (fun b o _ hb _ e n=>u.slot b o e n hb (by simp)) (fun b o _ e n=>u.free b o e n (by simp)) (fun b o _ e=>u.there b o e (by simp)) u.tups u.frzs u.tbls (fun m' hm=>by
  obtain⟨o',es',ep',ho',r'⟩:=hm;rw[ho]at ho';cases ho';exact⟨_,es',ep',hL,r'⟩) hok I.bare
theorem Inv.call{g':Array GenState}{t':Nat}{d':Drawn}{ch:List Addr}(I:Inv X pins σ H s)(u:Un (frs X.stack) ch H H' s.heap h')(hok:HOk X.prog X.w H' h')(hg:AllBare g')
 (hch:∀ b∈ch,(b∈X.ex∨X.s₀.heap.objs.size<=b)/\b≠X.env.locals/\(∀ x c,X.env.cells.lookup x=some c->c≠b) /\ ∀ p∈X.pn++pins,p.1≠b) :
 Inv X pins σ H' { s with heap:=h',gens:=g',drawn:=d',toks:=t' }:=by
 obtain⟨m,⟨o,es,ep,ho,r⟩,_⟩:=id I.loc;obtain⟨sl,hL⟩:=u.any ho I.free fun z=>(hch _ z).2.1 rfl;exact I.step (ch:=ch) hch (fun b o hL hb hc e n=>u.keep b o e n (fun z=>(List.mem_cons.mp (I.stkSub b z)).elim hL hb) hc) (fun b o _ _ hc e n=>u.any e n hc) (fun b o hc e n=>u.free b o e n hc) (fun b o hc e=>u.there b o e hc) u.tups u.frzs u.tbls (fun m' hm=>by
  obtain⟨o',es',ep',ho',r'⟩:=hm;rw[ho]at ho';cases ho';exact⟨_,es',ep',hL,r'⟩) hok hg
theorem Inv.turned{t':Nat}{it:Addr}(I:Inv X pins σ H s)(k:∀ b o,b≠it->s.heap.get? b=some o->h'.get? b=some o)(hn:H it=none)(hL:it≠X.env.locals)
 (h1:it∈X.ex∨X.s₀.heap.objs.size<=it) (h2:∀ x c,X.env.cells.lookup x=some c->c≠it) (h3:∀ p∈X.pn++pins,p.1≠it):Inv X pins σ H { s with heap:=h',toks:=t' }:=by
 have nit:∀ b u,H b=some u->b≠it:=fun b u e z=>by rw[z,hn]at e;cases e
 refine I.step (g':=s.gens) (d':=s.drawn) (ch:=[it]) (fun b hb=>?_) (fun b o _ _ hc e _=>k b o (fun z=>hc (by simp[z])) e) (fun b o _ _ hc e _=>⟨o.slots,k b o (fun z=>hc (by simp[z])) e⟩) (fun _ _ _ _ n=>n)
  (fun b o hc e=>⟨o,k b o (fun z=>hc (by simp[z])) e⟩) (fun _ _ e=>e) (fun _ _ _ e=>e) (fun b ps e=>⟨#[],by rw[e];simp⟩) (fun m hm=>?_) (fun b u e=>?_) I.bare
 · have e:b=it:=by simpa using hb
   subst e;exact⟨h1,hL,h2,h3⟩
 · obtain⟨o,es,ep,ho,r⟩:=hm
   exact⟨o,es,ep,k _ o (Ne.symm hL) ho,r⟩
 refine(I.hok b u e).stay (fun c v hc q=>k c v ?_ q) (fun _ q=>q) fun _ _ q=>q;rcases hc with z | z
 · rw[z];exact nit b u e
 exact nit c _ z
theorem Inv.tok(I:Inv X pins σ H s)(t:Nat):Inv X pins σ H { s with toks:=t }:=I.un (h':=s.heap) (t':=t) Un.refl I.hok
theorem Inv.kept{t':Nat}(I:Inv X pins σ H s)(k:∀ b u,s.heap.get? b=some u->h'.get? b=some u):Inv X pins σ H { s with heap:=h',toks:=t' }:=I.un (Un.kept k) (I.hok.kept k)
theorem Inv.laid{a:Addr}{o:HO}{t':Nat}(I:Inv X pins σ H s)(k:∀ b u,s.heap.get? b=some u->h'.get? b=some u)(hp:s.heap.objs.size<=a)(new:ObjOk X.prog X.w (upd H a o) h' a o) :
 Inv X pins σ (upd H a o) { s with heap:=h',toks:=t' }:=I.un (Un.laid k hp (I.hok.fresh hp)) (I.hok.laid k hp new)
theorem Inv.write{x e:Addr}{o:HO}{t':Nat}(I:Inv X pins σ H s)(mu:Mut (H x))(he:e=x∨H e=some (.own x))(k:∀ b u,b≠e->s.heap.get? b=some u->h'.get? b=some u)(heo:∃ u,h'.get? e=some u)
 (new:ObjOk X.prog X.w (upd H x o) h' x o):Inv X pins σ (upd H x o) { s with heap:=h',toks:=t' }:=I.un (Un.write mu he k heo) (I.hok.write mu he k heo new)
theorem Inv.pins_of{pins':List (Addr×Obj)}(I:Inv X pins σ H s)(h:∀ p∈pins',s.heap.get? p.1=some p.2/\H p.1=none/\p.1≠X.env.locals/\p.1∉X.fs /\ ∀ v,p.2.data ≠ .cell v):Inv X pins' σ H s:=
 ⟨I.ok,I.os,I.bare,I.base,I.loc,I.cell,I.free,I.freeC,fun p hp=>(List.mem_append.mp hp).elim (fun z=>I.pin p (List.mem_append_left _ z)) (h p),I.hok,I.len⟩
theorem nodup_ix{N:List Str}(hN:N.Nodup){i j:Nat}{x:Str}(a:N[i]?=some x)(b:N[j]?=some x):i=j:=by
 obtain⟨h1,e1⟩:=List.getElem?_eq_some_iff.mp a;obtain⟨h2,e2⟩:=List.getElem?_eq_some_iff.mp b;exact(List.getElem_inj hN).mp (e1.trans e2.symm)
theorem store_ok2{M:Model}{A:Around}{E:Value->Shared->Prop}{i:Nat}{x:Str}{v:V}{u:Value}{Q:Unit->Shared->Prop}(I:Inv X pins σ H s)(hN:X.N.Nodup)(hi:X.N[i]?=some x)(hx:Loc X.env.scope x)(r:RelV v u)
 (h:∀ s',Inv X pins (σ.set i (some v)) H s'->(∃ a,Heap.SameBut a s.heap s'.heap/\(a=X.env.locals∨X.env.cells.lookup x=some a))->Q () s') (hf:X.fn x=true∨X.env.scope.names.lookup x=some .local:=by first | exact .inl rfl | exact .inr rfl | assumption):wpAny M A (storeName X.env x u) Q E s:=by
 obtain⟨m,hn,hl⟩:=id I.loc;have hcls:(X.env.scope.kind == .class || (X.env.scope.kind == .module && X.env.locals != X.env.globals))=false:=by rw[I.ok.kind];rfl
 have hiσ:i < σ.length:=by rw[I.len];exact(List.getElem?_eq_some_iff.mp hi).1
 have cne:=I.cne;have tracked:∀{a:Addr}{h':Heap},(∃ o,s.heap.get? a=some o/\H a=none)->Heap.SameBut a s.heap h'->HOk X.prog X.w H h':=fun {a h'} ha hs b ob e=>by
  obtain⟨_,_,hfree⟩:=ha;refine(I.hok b ob e).stay (fun c w' hc q=>(hs.2 c ?_).trans q) (fun _ q=>q) fun _ _ q=>q;rintro rfl;rcases hc with rfl | hc
  · rw[hfree]at e;cases e
  rw[hfree]at hc;cases hc
 rcases hx with hk | hk
 · refine wpAny_storeName_local hk hn (fun h' hn' hs=>?_) hcls
   obtain⟨oL,_,_,hoL,_⟩:=id hn;refine h _ ⟨I.ok,I.os,I.bare,⟨fun b o e n hb hx=>?_,fun b o e n hb hx=>?_,I.base.free,fun b o e hx=>?_,I.base.tups,I.base.frzs,I.base.tbls⟩,⟨_,hn',fun j y v' e1 e2 e3=>?_⟩,fun y c e=>?_,I.free,I.freeC,fun p hp=>?_,tracked ⟨oL,hoL,I.free⟩ hs,by simpa using I.len⟩ ⟨_,hs,.inl rfl⟩
   · exact(hs.2 b (Nat.ne_of_lt (Nat.lt_of_lt_of_le (Heap.lt_size e) I.ok.above))).trans (I.base.keep b o e n hb hx)
   · obtain⟨sl,e1⟩:=I.base.slot b o e n hb hx
     exact⟨sl,(hs.2 b (Nat.ne_of_lt (Nat.lt_of_lt_of_le (Heap.lt_size e) I.ok.above))).trans e1⟩
   · obtain⟨o',e1⟩:=I.base.there b o e hx
     exact⟨o',(hs.2 b (Nat.ne_of_lt (Nat.lt_of_lt_of_le (Heap.lt_size e) I.ok.above))).trans e1⟩
   · by_cases hj:j=i
     · subst hj
       rw[hi]at e1;cases e1;rw[List.getElem?_set_self hiσ]at e2;cases e2;exact⟨u,r,.inl ⟨hk,by simp⟩⟩
     rw[List.getElem?_set_ne (Ne.symm hj)]at e2;obtain⟨u',r',q⟩:=hl j y v' e1 e2 e3;refine⟨u',r',?_⟩;rcases q with ⟨k,e⟩ | ⟨k,c,e,z⟩
     · refine .inl ⟨k,?_⟩
       have:y≠x:=fun e=>hj (nodup_ix hN e1 (e ▸ hi));simp[this,e]
     exact .inr ⟨k,c,e,z.sameBut hs (cne y c e)⟩
   · obtain⟨w',z⟩:=I.cell y c e
     exact⟨w',z.sameBut hs (cne y c e)⟩
   obtain⟨e,n,ne,nf,d⟩:=I.pin p hp;exact⟨(hs.2 p.1 ne).trans e,n,ne,nf,d⟩
 have hfn:X.fn x=true:=by
  rcases hf with z | z
  · exact z
  rw[z]at hk;cases hk
 obtain⟨c,hc⟩:=I.ok.has x (.inl hk);obtain⟨w',z⟩:=I.cell x c hc;refine wpAny_storeName_cell I.ok.kind hk hc z (fun h' hc' hs=>?_);obtain⟨oc,hoc,hocd⟩:=id z;refine h { s with heap:=h' } ⟨I.ok,I.os,I.bare,⟨fun b o e n hb hx=>?_,fun b o e n hb hx=>?_,I.base.free,fun b o e hx=>?_,I.base.tups,I.base.frzs,I.base.tbls⟩,⟨m,hn.sameBut hs (Ne.symm (cne x c hc)),fun j y v' e1 e2 e3=>?_⟩,fun y c' e=>?_,I.free,I.freeC,fun p hp=>?_,tracked ⟨oc,hoc,I.freeC x c hc⟩ hs,by simpa using I.len⟩ ⟨c,hs,.inr hc⟩
 · exact(hs.2 b (Nat.ne_of_lt (Nat.lt_of_lt_of_le (Heap.lt_size e) (I.ok.cab x c hfn hc)))).trans (I.base.keep b o e n hb hx)
 · obtain⟨sl,e1⟩:=I.base.slot b o e n hb hx
   exact⟨sl,(hs.2 b (Nat.ne_of_lt (Nat.lt_of_lt_of_le (Heap.lt_size e) (I.ok.cab x c hfn hc)))).trans e1⟩
 · obtain⟨o',e1⟩:=I.base.there b o e hx
   exact⟨o',(hs.2 b (Nat.ne_of_lt (Nat.lt_of_lt_of_le (Heap.lt_size e) (I.ok.cab x c hfn hc)))).trans e1⟩
 · by_cases hj:j=i
   · subst hj
     rw[hi]at e1;cases e1;rw[List.getElem?_set_self hiσ]at e2;cases e2;exact⟨u,r,.inr ⟨.inl hk,c,hc,hc'⟩⟩
   rw[List.getElem?_set_ne (Ne.symm hj)]at e2;obtain⟨u',r',q⟩:=hl j y v' e1 e2 e3;refine⟨u',r',?_⟩;rcases q with q | ⟨k,c',e,z'⟩
   · exact .inl q
   refine .inr ⟨k,c',e,z'.sameBut hs ?_⟩;rintro rfl;exact hj (nodup_ix hN e1 (I.ok.inj _ _ _ e hc ▸ hi))
 · by_cases hcc:c'=c
   · subst hcc;exact⟨_,hc'⟩
   obtain⟨w2,z2⟩:=I.cell y c' e;exact⟨w2,z2.sameBut hs hcc⟩
 obtain⟨e,n,ne,nf,d⟩:=I.pin p hp;refine⟨(hs.2 p.1 ?_).trans e,n,ne,nf,d⟩;intro q;rw[q,hoc]at e;have q':oc=p.2:=Option.some.inj e;exact d w' (by rw[← q'];exact hocd)
theorem store_ok{M:Model}{A:Around}{E:Value->Shared->Prop}{i:Nat}{x:Str}{v:V}{u:Value}{Q:Unit->Shared->Prop}(I:Inv X pins σ H s)(hN:X.N.Nodup)(hi:X.N[i]?=some x)(hx:Loc X.env.scope x)(r:RelV v u)
 (h:∀ s',Inv X pins (σ.set i (some v)) H s'->Q () s') (hf:X.fn x=true∨X.env.scope.names.lookup x=some .local:=by first | exact .inl rfl | exact .inr rfl | assumption):wpAny M A (storeName X.env x u) Q E s:=
 store_ok2 I hN hi hx r (fun s' I' _=>h s' I') hf
theorem Inv.call'{s':Shared}{ch:List Addr}(I:Inv X pins σ H s)(ho:s'.os=s.os)(u:Un (frs X.stack) ch H H' s.heap s'.heap)(hok:HOk X.prog X.w H' s'.heap)(hg:AllBare s'.gens)
 (hch:∀ b∈ch,(b∈X.ex∨X.s₀.heap.objs.size<=b)/\b≠X.env.locals/\(∀ x c,X.env.cells.lookup x=some c->c≠b) /\ ∀ p∈X.pn++pins,p.1≠b):Inv X pins σ H' s':=by
 obtain⟨h',g',d',t',o'⟩:=s';have e:o'=s.os:=ho;subst e;exact I.call (g':=g') (t':=t') (d':=d') u hok hg hch
end
noncomputable abbrev XK:=Value->Option Addr->Hp->Prop
noncomputable abbrev St:=List (Option V)
noncomputable abbrev VK:=V->Hp->Prop
noncomputable abbrev TE:=St->Hp->VK->Prop
noncomputable abbrev TT:=St->Hp->(Bool->Hp->Prop)->Prop
noncomputable abbrev TA:=St->Hp->(List V->Hp->Prop)->Prop
structure Ends where
 nx:St->Hp->Prop
 rt:VK
 bk:St->Hp->Prop:=fun _ _=>False
 ct:St->Hp->Prop:=fun _ _=>False
noncomputable abbrev TS:=Ends->St->Hp->Prop
noncomputable def EP(X:Cx)(pins:List (Addr×Obj))(σ:St)(Q:VK)(u:Value)(s':Shared):Prop:=∃ v H',Inv X pins σ H' s'/\RelV v u/\Q v H'
noncomputable def TP(X:Cx)(pins:List (Addr×Obj))(σ:St)(Q:Bool->Hp->Prop)(b:Bool)(s':Shared):Prop:=∃ H',Inv X pins σ H' s'/\Q b H'
noncomputable def AP(X:Cx)(pins:List (Addr×Obj))(σ:St)(Q:List V->Hp->Prop)(us:List Value)(s':Shared):Prop:=∃ vs H',Inv X pins σ H' s'/\Vals vs us/\Q vs H'
noncomputable def SP(X:Cx)(pins:List (Addr×Obj))(D:Ends)(f:Flow)(s':Shared):Prop:=
 match f with
 | .next=>∃ σ' H',Inv X pins σ' H' s'/\D.nx σ' H'
 | .brk=>∃ σ' H',Inv X pins σ' H' s'/\D.bk σ' H'
 | .cont=>∃ σ' H',Inv X pins σ' H' s'/\D.ct σ' H'
 | .ret u=>∃ v σ' H',Inv X pins σ' H' s'/\RelV v u/\D.rt v H'
noncomputable def PE(X:Cx)(e:Expr)(t:TE):Prop:=
 ∀(pins:List (Addr×Obj)) (s:Shared) (σ:St) (H:Hp) (Q:VK),Inv X pins σ H s->t σ H Q->wpAny (model X.prog X.w) X.A (eval e X.env) (EP X pins σ Q) X.xe s
noncomputable def PT(X:Cx)(e:Expr)(t:TT):Prop:=
 ∀(pins:List (Addr×Obj)) (s:Shared) (σ:St) (H:Hp) (Q:Bool->Hp->Prop),Inv X pins σ H s->t σ H Q->wpAny (model X.prog X.w) X.A (isTrue e X.env (eval e X.env)) (TP X pins σ Q) X.xe s
noncomputable def PW(X:Cx)(e:Expr)(t:TT):Prop:=
 ∀(whole:Sem Value) (pins:List (Addr×Obj)) (s:Shared) (σ:St) (H:Hp) (Q:Bool->Hp->Prop),Inv X pins σ H s->t σ H Q->wpAny (model X.prog X.w) X.A (isTrue e X.env whole) (TP X pins σ Q) X.xe s
theorem PW.pt{X:Cx}{e:Expr}{t:TT}(h:PW X e t):PT X e t:=h _
noncomputable def PA(X:Cx)(es:List Expr)(t:TA):Prop:=
 ∀(pos:Pos) (pins:List (Addr×Obj)) (s:Shared) (σ:St) (H:Hp) (Q:List V->Hp->Prop),Inv X pins σ H s->t σ H Q->wpAny (model X.prog X.w) X.A (spliced (backTo pos (starEach es X.env))) (AP X pins σ Q) X.xe s
noncomputable def PS(X:Cx)(st:Stmt)(t:TS):Prop:=
 ∀(pins:List (Addr×Obj)) (s:Shared) (σ:St) (H:Hp) (D:Ends),Inv X pins σ H s->t D σ H->wpAny (model X.prog X.w) X.A (exec st X.env) (SP X pins D) X.xe s
noncomputable def PSs(X:Cx)(st:List Stmt)(t:TS):Prop:=
 ∀(pins:List (Addr×Obj)) (s:Shared) (σ:St) (H:Hp) (D:Ends),Inv X pins σ H s->t D σ H->wpAny (model X.prog X.w) X.A (execs st X.env) (SP X pins D) X.xe s
theorem thn{α:Type}{t:Sem α}{Q Q':α -> Shared->Prop}{M:Model}{A:Around}{E:Value->Shared->Prop}{s:Shared}(h:wpAny M A t Q E s)(hQ:∀ a s,Q a s->Q' a s):wpAny M A t Q' E s:=wpAny_mono h hQ fun _ _ x=>x
end L2
namespace L2
open PySem PySem.Spec PyProof.Rows
section
variable{X:Cx}
noncomputable def tVar(i:Nat):TE:=fun σ H Q=>∃ v,σ[i]?=some (some v)/\Q v H
noncomputable def tC(v:V):TE:=fun _ H Q=>Q v H
theorem pe_var{i:Nat}{x:Str}{pos:Pos}(hN:X.N[i]?=some x)(hv:Vis X.env.scope x)(hd:(x == ("__debug__":Str))=false:=by decide)(hcd:(x == ("__classdict__":Str))=false:=by decide):PE X (.Name x pos) (tVar i):=by
 intro pins s σ H Q I h;obtain⟨v,e,h⟩:=h;obtain⟨m,hn,hl⟩:=I.loc;obtain⟨u,r,l⟩:=hl i x v hN e hv;have fin:EP X pins σ Q u s:=⟨v,H,I,r,h⟩;rcases l with ⟨hk,hm⟩ | ⟨hk,c,hc,hcell⟩
 · exact wpAny_Name (wpAny_loadName_local I.ok.kind hk hn hm fin) hd
 rcases hk with hk | hk
 · exact wpAny_Name (wpAny_loadName_cell I.ok.kind hk hc hcell fin) hd
 exact wpAny_Name (wpAny_loadName_free I.ok.kind hk hc hcell fin hcd) hd
theorem pe_int{i j pos}:PE X (.Constant (.int i) j pos) (tC (.int i)):=fun _ _ _ H _ I h=>wpAny_Constant_int ⟨.int i,H,I.tok _,⟨_,rfl⟩,h⟩
theorem pe_bl{b j pos}:PE X (.Constant (.bool b) j pos) (tC (.bl b)):=fun _ _ _ H _ I h=>Constant_bool ⟨.bl b,H,I,rfl,h⟩
theorem pe_non{j pos}:PE X (.Constant .none j pos) (tC .non):=fun _ _ _ H _ I h=>Constant_none ⟨.non,H,I,rfl,h⟩
theorem pe_str{x j pos}:PE X (.Constant (.str x) j pos) (tC (.str x)):=fun _ _ _ H _ I h=>Calls.Constant_str ⟨.str x,H,I.tok _,⟨_,rfl⟩,h⟩
noncomputable def Gl(X:Cx)(x:Str):Prop:=X.env.kindOf x=some .globalImplicit
theorem ld_glob{E:Value->Shared->Prop}{pins:List (Addr×Obj)}{s:Shared}{σ:St}{H:Hp}{x:Str}{u:Value}{pos:Pos}{Q:Value->Shared->Prop}(I:Inv X pins σ H s)(hg:Gl X x)(hm:X.mg x=some u)(h:Q u s)
 (hd:(x == ("__debug__":Str))=false:=by decide):wpAny (model X.prog X.w) X.A (eval (.Name x pos) X.env) Q E s:=
 Calls.Name_function_global I.ok.kind hg (Calls.loadGlobal_global (by rw[I.ok.glob];exact I.mod.glob.keeps I.bk) hm h) hd
theorem ld_blt{E:Value->Shared->Prop}{pins:List (Addr×Obj)}{s:Shared}{σ:St}{H:Hp}{x:Str}{u:Value}{pos:Pos}{Q:Value->Shared->Prop}(I:Inv X pins σ H s)(hg:Gl X x)(hm:X.mg x=none)(hv:bootBuiltins x=some u)(h:Q u s)
 (hn:x ≠ "__name__":=by decide) (hd:(x == ("__debug__":Str))=false:=by decide):wpAny (model X.prog X.w) X.A (eval (.Name x pos) X.env) Q E s:=by
 obtain⟨mb,h1,h2⟩:=I.mod.blt;exact Calls.Name_function_global I.ok.kind hg (Calls.loadGlobal_builtin (by rw[I.ok.glob];exact I.mod.glob.keeps I.bk) hm (by rw[I.ok.blt];exact h1.keeps I.bk) ((h2 x hn).trans hv) h) hd
theorem pe_glob{x:Str}{v:V}{u:Value}{pos:Pos}(hg:Gl X x)(hm:X.mg x=some u)(r:RelV v u)(hd:(x == ("__debug__":Str))=false:=by decide):PE X (.Name x pos) (tC v):=
 fun _ _ _ H _ I h=>ld_glob I hg hm ⟨v,H,I,r,h⟩ hd
theorem pe_bltn{x:Str}{v:V}{u:Value}{pos:Pos}(hg:Gl X x)(hm:X.mg x=none)(hv:bootBuiltins x=some u)(r:RelV v u)(hn:x ≠ "__name__":=by decide)(hd:(x == ("__debug__":Str))=false:=by decide):PE X (.Name x pos) (tC v):=
 fun _ _ _ H _ I h=>ld_blt I hg hm hv ⟨v,H,I,r,h⟩ hn hd
variable{a b:Expr}{ta tb:TE}{pos:Pos}
noncomputable def PC(X:Cx)(op:CmpOp)(a b:Expr)(t:TE):Prop:=
 ∀(pins:List (Addr×Obj)) (s:Shared) (σ:St) (H:Hp) (Q:VK),Inv X pins σ H s->t σ H Q ->
   wpAny (model X.prog X.w) X.A (eval a X.env) (fun v s₁=>wpAny (model X.prog X.w) X.A (eval b X.env) (fun u s₂=>wpAny (model X.prog X.w) X.A (compareOp op v u) (EP X pins σ Q) X.xe s₂) X.xe s₁) X.xe s
noncomputable def tB(t:TE):TT:=fun σ H Q=>t σ H fun x H1=>∃ c,x=.bl c/\Q c H1
theorem pt_cmp{op:CmpOp}{t:TE}(h:PC X op a b t)(h1:behindInMarks op b=false:=by first | exact nobehind _ (by decide) (by decide) | rfl):PT X (.Compare a [op] [b] pos) (tB t):=by
 intro pins s σ H Q I hw;refine wpAny_isTrue_Compare1 (thn (h pins s σ H _ I hw) fun v s1 h1=>thn h1 fun u s2 h2=>thn h2 fun c s3 ⟨x,H1,I1,r1,q1⟩=>?_) h1;obtain⟨d,rfl,q⟩:=q1;cases r1;exact wpAny_truthy_bool ⟨H1,I1,q⟩
theorem pt_val{e:Expr}{t:TE}(h:PE X e t)(he:∀ whole,isTrue e X.env whole=(do let v ← whole;standAt e.pos;holding [v] (truthy v)):=by intro _;rfl):PT X e (tB t):=by
 intro pins s σ H Q I hw;refine isTrue_plain (thn (h pins s σ H _ I hw) fun v s1 ⟨x,H1,I1,r1,q1⟩=>?_) (he _);obtain⟨d,rfl,q⟩:=q1;cases r1;exact wpAny_truthy_bool ⟨H1,I1,q⟩
variable{tA tB':TT}{rest:List Expr}
noncomputable def tAnd(t u:TT):TT:=fun σ H Q=>t σ H fun c H1=>if c=true then u σ H1 Q else Q false H1
noncomputable def tOr(t u:TT):TT:=fun σ H Q=>t σ H fun c H1=>if c=true then Q true H1 else u σ H1 Q
noncomputable def tNot(t:TT):TT:=fun σ H Q=>t σ H fun c H1=>Q (!c) H1
theorem pw_and1(ha:PT X a tA):PW X (.BoolOp .And [a] pos) tA:=by
 intro wh pins s σ H Q I h;refine isTrue_and (thn (ha pins s σ H Q I h) fun c s1 e=>?_);cases c with
 | true=>exact isTrue_and_nil e
 | false=>exact e
theorem pw_or1(ha:PT X a tA):PW X (.BoolOp .Or [a] pos) tA:=by
 intro wh pins s σ H Q I h;refine isTrue_or (thn (ha pins s σ H Q I h) fun c s1 e=>?_);cases c with
 | false=>exact isTrue_or_nil e
 | true=>exact e
theorem pw_and(ha:PT X a tA)(hb:PW X (.BoolOp .And (b::rest) pos) tB'):PW X (.BoolOp .And (a::b::rest) pos) (tAnd tA tB'):=by
 intro wh pins s σ H Q I h;refine isTrue_and (thn (ha pins s σ H _ I h) fun c s1 zz=>?_);obtain⟨H1,I1,q1⟩:=zz;cases c with
 | true=>exact hb wh pins s1 σ H1 Q I1 q1
 | false=>exact⟨H1,I1,q1⟩
theorem pw_or(ha:PT X a tA)(hb:PW X (.BoolOp .Or (b::rest) pos) tB'):PW X (.BoolOp .Or (a::b::rest) pos) (tOr tA tB'):=by
 intro wh pins s σ H Q I h;refine isTrue_or (thn (ha pins s σ H _ I h) fun c s1 zz=>?_);obtain⟨H1,I1,q1⟩:=zz;cases c with
 | true=>exact⟨H1,I1,q1⟩
 | false=>exact hb wh pins s1 σ H1 Q I1 q1
theorem pt_not(ha:PT X a tA):PT X (.UnaryOp .Not a pos) (tNot tA):=by
 intro pins s σ H Q I h;exact isTrue_not (ha pins s σ H (fun c H1=>Q (!c) H1) I h)
noncomputable def tAndV(ta tb:TE):TE:=fun σ H Q=>ta σ H fun x H1=>∃ c,x=.bl c/\if c=true then tb σ H1 Q else Q (.bl false) H1
noncomputable def tOrV(ta tb:TE):TE:=fun σ H Q=>ta σ H fun x H1=>∃ c,x=.bl c/\if c=true then Q (.bl true) H1 else tb σ H1 Q
noncomputable def tNotV(ta:TE):TE:=fun σ H Q=>ta σ H fun x H1=>∃ c,x=.bl c/\Q (.bl (!c)) H1
theorem pe_one{op}{t:TE}(h:PE X a t):PE X (.BoolOp op [a] pos) t:=fun pins s σ H Q I hw=>BoolOp_one (h pins s σ H Q I hw)
theorem pe_and(ha:PE X a ta)(hb:PE X (.BoolOp .And (b::rest) pos) tb):PE X (.BoolOp .And (a::b::rest) pos) (tAndV ta tb):=by
 intro pins s σ H Q I h;refine BoolOp_and (thn (ha pins s σ H _ I h) fun v s1 zz=>?_);obtain⟨x,H1,I1,r1,q1⟩:=zz;obtain⟨c,rfl,q1⟩:=q1;cases r1;refine wpAny_truthy_bool ?_;cases c with
 | true=>exact hb pins s1 σ H1 Q I1 q1
 | false=>exact⟨.bl false,H1,I1,rfl,q1⟩
theorem pe_or(ha:PE X a ta)(hb:PE X (.BoolOp .Or (b::rest) pos) tb):PE X (.BoolOp .Or (a::b::rest) pos) (tOrV ta tb):=by
 intro pins s σ H Q I h;refine BoolOp_or (thn (ha pins s σ H _ I h) fun v s1 zz=>?_);obtain⟨x,H1,I1,r1,q1⟩:=zz;obtain⟨c,rfl,q1⟩:=q1;cases r1;refine wpAny_truthy_bool ?_;cases c with
 | false=>exact hb pins s1 σ H1 Q I1 q1
 | true=>exact⟨.bl true,H1,I1,rfl,q1⟩
theorem pe_not(ha:PE X a ta):PE X (.UnaryOp .Not a pos) (tNotV ta):=by
 intro pins s σ H Q I h;refine UnaryOp_ (thn (ha pins s σ H _ I h) fun v s1 zz=>?_);obtain⟨x,H1,I1,r1,q1⟩:=zz;obtain⟨c,rfl,q1⟩:=q1;cases r1;exact not_of (wpAny_truthy_bool ⟨.bl (!c),H1,I1,rfl,q1⟩)
noncomputable def tIf(t:TT)(ta tb:TE):TE:=fun σ H Q=>t σ H fun c H1=>if c=true then ta σ H1 Q else tb σ H1 Q
theorem pe_ifExp{c:Expr}(hc:PT X c tA)(ha:PE X a ta)(hb:PE X b tb):PE X (.IfExp c a b pos) (tIf tA ta tb):=by
 intro pins s σ H Q I h;refine wpAny_IfExp (thn (hc pins s σ H _ I h) fun d s1 zz=>?_);obtain⟨H1,I1,q1⟩:=zz;cases d with
 | true=>exact ha pins s1 σ H1 Q I1 q1
 | false=>exact hb pins s1 σ H1 Q I1 q1
end
end L2
namespace L2
open PySem PySem.Spec PyProof.Rows
noncomputable def SqL(K:W.Frag)(H:Hp)(a:Addr)(xs:List V):Prop:=
 Rd H a (.lst xs) ∨
  ∃(o:Obj) (its:Array Value) (n:Nat),K.lookup a=some o/\o.cls=.type "list" /\ o.dict=none/\o.data=.seq its n/\its.size<=sizeLine/\Vals xs its.toList
noncomputable def SqT(K:W.Frag)(H:Hp)(a:Addr)(xs:List V):Prop:=
 Rd H a (.tup xs) ∨
  ∃(o:Obj) (its:Array Value) (n:Nat),K.lookup a=some o/\o.cls=.type "tuple" /\ o.data=.seq its n/\its.size<=sizeLine/\Vals xs its.toList
noncomputable def absV:Value->Option V
 | .none=>some .non
 | .bool b=>some (.bl b)
 | .int i _=>some (.int i)
 | .str x _=>some (.str x)
 | .bytes b _=>some (.byt b)
 | .float b _=>some (.flt b)
 | .ref a=>some (.ref a)
 | .type n=>some (.ty n)
 | _=>none
theorem RelV.abs{x:V}{u:Value}(r:RelV x u):absV u=some x:=by
 cases x with
 | non=>cases r;rfl
 | bl _=>cases r;rfl
 | int _=>obtain⟨t,rfl⟩:=r;rfl
 | str _=>obtain⟨t,rfl⟩:=r;rfl
 | byt _=>obtain⟨t,rfl⟩:=r;rfl
 | flt _=>obtain⟨t,rfl⟩:=r;rfl
 | ref _=>cases r;rfl
 | ty _=>cases r;rfl
theorem RelV.inj{x y:V}{u:Value}(r:RelV x u)(q:RelV y u):x=y:=Option.some.inj (r.abs.symm.trans q.abs)
theorem Vals.inj:∀{xs ys:List V}{us:List Value},Vals xs us->Vals ys us->xs=ys
 | _,_,_,.nil,.nil=>rfl
 | _,_,_,.cons r t,.cons r' t'=>by rw[r.inj r',Vals.inj t t']
section
variable{X:Cx}{pins:List (Addr×Obj)}{σ:St}{H:Hp}{s:Shared}{a:Addr}{xs ys:List V}
theorem SqL.of{K:W.Frag}(h:H a=some (.lst xs)):SqL K H a xs:=.inl (.inl h)
theorem SqT.of{K:W.Frag}(h:H a=some (.tup xs)):SqT K H a xs:=.inl (.inl h)
theorem Inv.list(I:Inv X pins σ H s)(h:SqL X.K H a xs):∃ its:List Value,Vals xs its/\PlainL s.heap a its.toArray/\xs.length<=sizeLine:=by
 rcases h with h | ⟨o,its,n,hk,hc,hd,hs,hz,r⟩
 · obtain⟨z,its,n,r,e⟩:=h.ok I.hok
   exact⟨its,r,⟨_,n,e,rfl,rfl,rfl⟩,z⟩
 refine⟨its.toList,r,⟨o,n,I.kIn a o hk,hc,hd,by simpa using hs⟩,?_⟩
 have e:=r.length;simp only[Array.length_toList]at e;omega
theorem Inv.tuple(I:Inv X pins σ H s)(h:SqT X.K H a xs):∃ its:List Value,Vals xs its/\IsTup s.heap a its.toArray/\xs.length<=sizeLine:=by
 rcases h with h | ⟨o,its,n,hk,hc,hs,hz,r⟩
 · obtain⟨z,its,r,p⟩:=h.ok I.hok
   exact⟨its,r,p,z⟩
 refine⟨its.toList,r,⟨o,I.kIn a o hk,hc,n,by simpa using hs⟩,?_⟩
 have e:=r.length;simp only[Array.length_toList]at e;omega
theorem Inv.list_inj(I:Inv X pins σ H s)(h:SqL X.K H a xs)(h':SqL X.K H a ys):xs=ys:=by
 obtain⟨its,r,⟨o,n,e,_,_,d⟩,_⟩:=I.list h;obtain⟨its',r',⟨o',n',e',_,_,d'⟩,_⟩:=I.list h';rw[e]at e';cases e';rw[d]at d';injection d' with d1 _;have:its=its':=by simpa using congrArg Array.toList d1
 subst this;exact r.inj r'
theorem Inv.tuple_inj(I:Inv X pins σ H s)(h:SqT X.K H a xs)(h':SqT X.K H a ys):xs=ys:=by
 obtain⟨its,r,⟨o,e,_,n,d⟩,_⟩:=I.tuple h;obtain⟨its',r',⟨o',e',_,n',d'⟩,_⟩:=I.tuple h';rw[e]at e';cases e';rw[d]at d';injection d' with d1 _;have:its=its':=by simpa using congrArg Array.toList d1
 subst this;exact r.inj r'
end
noncomputable abbrev Cx.wish(X:Cx)(E:Value->Shared->Prop):Cx:={ X with xe:=E }
noncomputable abbrev Cx.nox(X:Cx):Cx:=X.wish fun _ _=>False
theorem Cx.Ok.wish{X:Cx}(ok:X.Ok)(E:Value->Shared->Prop):(X.wish E).Ok:=
 ⟨ok.mod,ok.kind,ok.glob,ok.blt,ok.above,ok.inj,ok.has,ok.cab,ok.hd,ok.frames,ok.stk,ok.exf,ok.bs,ok.bsz,ok.noex,ok.exfs,ok.funs,ok.frf⟩
theorem Cx.Ok.unwish{X:Cx}{E:Value->Shared->Prop}(ok:(X.wish E).Ok):X.Ok:=
 ⟨ok.mod,ok.kind,ok.glob,ok.blt,ok.above,ok.inj,ok.has,ok.cab,ok.hd,ok.frames,ok.stk,ok.exf,ok.bs,ok.bsz,ok.noex,ok.exfs,ok.funs,ok.frf⟩
section
variable{X:Cx}{pins:List (Addr×Obj)}{σ:St}{H:Hp}{s:Shared}{E:Value->Shared->Prop}
theorem Inv.wish(I:Inv X pins σ H s)(E:Value->Shared->Prop):Inv (X.wish E) pins σ H s:=⟨I.ok.wish E,I.os,I.bare,I.base,I.loc,I.cell,I.free,I.freeC,I.pin,I.hok,I.len⟩
theorem Inv.unwish(I:Inv (X.wish E) pins σ H s):Inv X pins σ H s:=⟨I.ok.unwish,I.os,I.bare,I.base,I.loc,I.cell,I.free,I.freeC,I.pin,I.hok,I.len⟩
theorem SP.unwish{D:Ends}{f:Flow}{s':Shared}(h:SP (X.wish E) pins D f s'):SP X pins D f s':=by
 cases f with
 | next=>obtain⟨σ',H',I,q⟩:=h;exact⟨σ',H',I.unwish,q⟩
 | brk=>obtain⟨σ',H',I,q⟩:=h;exact⟨σ',H',I.unwish,q⟩
 | cont=>obtain⟨σ',H',I,q⟩:=h;exact⟨σ',H',I.unwish,q⟩
 | ret u=>obtain⟨v,σ',H',I,r,q⟩:=h;exact⟨v,σ',H',I.unwish,r,q⟩
theorem PSs.nox{st:List Stmt}{t:TS}(h:PSs X.nox st t):PSs X st t:=fun pins s σ H D I hw=>
 wpAny_mono (h pins s σ H D (I.wish _) hw) (fun _ _ q=>q.unwish) fun _ _ z=>False.elim z
end
section
variable{X:Cx}{st:Stmt}{rest:List Stmt}{t u:TS}{e:Expr}{te:TE}{pos:Pos}
noncomputable def tNext:TS:=fun D σ H=>D.nx σ H
noncomputable def tSeq(t u:TS):TS:=fun D σ H=>t { D with nx:=u D } σ H
theorem pss_nil:PSs X [] tNext:=fun _ _ σ H _ I h=>wpAny_execs_nil ⟨σ,H,I,h⟩
theorem pss_cons(h1:PS X st t)(h2:PSs X rest u):PSs X (st::rest) (tSeq t u):=by
 intro pins s σ H D I h;refine wpAny_execs_cons (thn (h1 pins s σ H { D with nx:=u D } I h) fun f s1 q=>?_);cases f with
 | next=>
   obtain⟨σ',H',I',q⟩:=q;exact h2 pins s1 σ' H' D I' q
 | ret v=>exact q
 | brk=>exact q
 | cont=>exact q
theorem pss_one(h1:PS X st t):PSs X [st] t:=by
 intro pins s σ H D I h;refine wpAny_execs_cons (thn (h1 pins s σ H D I h) fun f s1 q=>?_);cases f with
 | next=>exact wpAny_execs_nil q
 | ret v=>exact q
 | brk=>exact q
 | cont=>exact q
theorem Inv.quiet{pins:List (Addr×Obj)}{σ:St}{H:Hp}{s:Shared}(I:Inv X pins σ H s):interactive X.env=false:=by simp[interactive,I.ok.kind]
noncomputable def tDrop(te:TE):TS:=fun D σ H=>te σ H fun _ H1=>D.nx σ H1
theorem ps_expr(he:PE X e te)(hs:swapsWith e none pos.line X.env=pure false:=by rfl):PS X (.Expr e pos) (tDrop te):=by
 intro pins s σ H D I h;exact wpAny_Expr_any (thn (he pins s σ H _ I h) fun v s1 ⟨x,H1,I1,r1,q1⟩=>⟨σ,H1,I1,q1⟩) I.quiet hs
noncomputable def tRet(te:TE):TS:=fun D σ H=>te σ H D.rt
theorem ps_ret(he:PE X e te):PS X (.Return (some e) pos) (tRet te):=by
 intro pins s σ H D I h;exact wpAny_Return_some (thn (he pins s σ H _ I h) fun v s1 ⟨x,H1,I1,r1,q1⟩=>⟨x,σ,H1,I1,r1,q1⟩)
noncomputable def tRetN:TS:=fun D _ H=>D.rt .non H
theorem ps_retN:PS X (.Return none pos) tRetN:=fun _ _ σ H _ I h=>wpAny_Return_none ⟨.non,σ,H,I,rfl,h⟩
noncomputable def tIfS(c:TT)(t u:TS):TS:=fun D σ H=>c σ H fun b H1=>if b=true then t D σ H1 else u D σ H1
theorem ps_if{c:Expr}{a b:List Stmt}{tc:TT}(hc:PT X c tc)(ha:PSs X a t)(hb:PSs X b u):PS X (.If c a b pos) (tIfS tc t u):=by
 intro pins s σ H D I h;refine wpAny_If (thn (hc pins s σ H _ I h) fun d s1 zz=>?_);obtain⟨H1,I1,q1⟩:=zz;cases d with
 | true=>exact ha pins s1 σ H1 D I1 q1
 | false=>exact hb pins s1 σ H1 D I1 q1
noncomputable def tNever:TS:=fun _ _ _=>False
theorem ps_never:PS X st tNever:=fun _ _ _ _ _ _ h=>h.elim
end
noncomputable abbrev TG:=V->St->Hp->(St->Hp->Prop)->Prop
noncomputable abbrev TGs:=List V->St->Hp->(St->Hp->Prop)->Prop
noncomputable def PG(X:Cx)(target:Expr)(t:TG):Prop:=
 ∀(pins:List (Addr×Obj)) (s:Shared) (σ:St) (H:Hp) (v:V) (u:Value) (Q:St->Hp->Prop),Inv X pins σ H s->RelV v u->t v σ H Q ->
   wpAny (model X.prog X.w) X.A (assign target X.env u) (fun _ s'=>∃ σ' H',Inv X pins σ' H' s'/\Q σ' H') X.xe s
noncomputable def PGs(X:Cx)(ts:List Expr)(t:TGs):Prop:=
 ∀(pins:List (Addr×Obj)) (s:Shared) (σ:St) (H:Hp) (vs:List V) (us:List Value) (Q:St->Hp->Prop),Inv X pins σ H s->Vals vs us->t vs σ H Q ->
   wpAny (model X.prog X.w) X.A (assignInOrder ((assignEach ts X.env).map (·.2)) us) (fun _ s'=>∃ σ' H',Inv X pins σ' H' s'/\Q σ' H') X.xe s
noncomputable abbrev TSet:=V->V->V->Hp->(Hp->Prop)->Prop
noncomputable def PSet(X:Cx)(t:TSet):Prop:=
 ∀(pins:List (Addr×Obj)) (s:Shared) (σ:St) (H:Hp) (o i v:V) (ov iv u:Value) (Q:Hp->Prop),Inv X pins σ H s->RelV o ov->RelV i iv->RelV v u->t o i v H Q ->
   wpAny (model X.prog X.w) X.A (setItem ov iv u) (fun _ s'=>∃ H',Inv X pins σ H' s'/\Q H') X.xe s
section
variable{X:Cx}{pos:Pos}
noncomputable def gName(i:Nat):TG:=fun v σ H Q=>Q (σ.set i (some v)) H
theorem pg_name{i:Nat}{x:Str}(hN:X.N.Nodup)(hi:X.N[i]?=some x)(hx:Loc X.env.scope x)(hf:X.fn x=true∨X.env.scope.names.lookup x=some .local:=by first | exact .inl rfl | exact .inr rfl | assumption):PG X (.Name x pos) (gName i):=by
 intro pins s σ H v u Q I r h;exact wpAny_assign_Name (store_ok I hN hi hx r (fun s' I'=>⟨_,H,I',h⟩) hf)
noncomputable def gNil:TGs:=fun vs σ H Q=>vs=[]/\Q σ H
noncomputable def gCons(t:TG)(u:TGs):TGs:=fun vs σ H Q=>∃ v r,vs=v::r/\t v σ H fun σ' H'=>u r σ' H' Q
theorem pgs_nil:PGs X [] gNil:=by
 intro pins s σ H vs us Q I r h;obtain⟨e,h⟩:=h;subst e;cases r;exact assignInOrder_nil ⟨σ,H,I,h⟩
theorem pgs_cons{e:Expr}{es:List Expr}{t:TG}{u:TGs}(h1:PG X e t)(h2:PGs X es u)
 (hs:(assignEach (e::es) X.env).map (·.2)=assign e X.env::(assignEach es X.env).map (·.2):=by rfl):PGs X (e::es) (gCons t u):=by
 intro pins s σ H vs us Q I r h;obtain⟨v,vr,e1,h⟩:=h;subst e1;cases r with
 | cons r rr=>
   rw[hs];refine assignInOrder_cons (thn (h1 pins s σ H _ _ _ I r h) fun _ s1 zz=>?_);obtain⟨σ1,H1,I1,q1⟩:=zz;exact h2 pins s1 σ1 H1 _ _ Q I1 rr q1
noncomputable def gTup(K:W.Frag)(n:Nat)(t:TGs):TG:=fun v σ H Q=>∃ a xs,v=.ref a/\SqT K H a xs/\xs.length=n/\t xs σ H Q
theorem pg_tup{es:List Expr}{k:Nat}{t:TGs}{n:Nat}(hc:X.calm=true)(h:PGs X es t)
 (hn:(assignEach es X.env).length=n:=by rfl) (hst:(assignEach es X.env).findIdx? (·.1)=none:=by rfl):PG X (.Tuple es k pos) (gTup X.K n t):=by
 intro pins s σ H v u Q I r hw;obtain⟨a,xs,e1,hq,hl,hw⟩:=hw;subst e1;cases r;obtain⟨its,rv,ht,hz⟩:=I.tuple hq;refine assign_Tuple_tuple (I.ok.hd hc) ht (by simp[hn,← hl,rv.length]) hst fun h' hx=>?_
 have I1:Inv X pins σ H { s with heap:=h' }:=I.kept (t':=s.toks) fun b o e=>hx b o (Nat.ne_of_lt (Heap.lt_size e)) e;exact h pins _ σ H xs _ Q I1 (by simpa using rv) hw
noncomputable def gSub(to ti:TE)(t:TSet):TG:=fun v σ H Q=>to σ H fun o H1=>ti σ H1 fun i H2=>t o i v H2 fun H3=>Q σ H3
theorem pg_sub{o i:Expr}{to ti:TE}{t:TSet}(ho:PE X o to)(hi:PE X i ti)(hs:PSet X t)
 (ha:∀ v,assign (.Subscript o i pos) X.env v=(do
  let ov ← holding [v] (eval o X.env)
  let iv ← holding [v,ov] (eval i X.env)
  standAt pos
  holding [v,ov,iv] (setItem ov iv v)
  release [v,ov,iv] []):=by intro _;rfl):PG X (.Subscript o i pos) (gSub to ti t):=by
 intro pins s σ H v u Q I r h;rw[ha];refine wpAny_bind (wpAny_holding (thn (ho pins s σ H _ I h) fun ov s1 zz=>?_));obtain⟨x,H1,I1,r1,q1⟩:=zz;refine wpAny_bind (wpAny_holding (thn (hi pins s1 σ H1 _ I1 q1) fun iv s2 zz=>?_));obtain⟨y,H2,I2,r2,q2⟩:=zz;refine wpAny_bind (wpAny_standAt (wpAny_bind (wpAny_holding (thn (hs pins s2 σ H2 x y v ov iv u _ I2 r1 r2 r q2) fun _ s3 zz=>?_))));obtain⟨H3,I3,q3⟩:=zz;exact wpAny_release ⟨σ,H3,I3,q3⟩
noncomputable def tAsg(te:TE)(g:TG):TS:=fun D σ H=>te σ H fun x H1=>g x σ H1 D.nx
theorem ps_asg{tg e:Expr}{te:TE}{g:TG}(he:PE X e te)(hg:PG X tg g)(hs:swapsWithSole [tg] e pos.line X.env=pure false:=by rfl)(hw:swappedStores [tg] e X.env=pure none:=by rfl)
 (h1:(assignEach [tg] X.env).map (·.2)=[assign tg X.env]:=by rfl):PS X (.Assign [tg] e pos) (tAsg te g):=by
 intro pins s σ H D I h;refine wpAny_Assign_stores (thn (he pins s σ H _ I h) fun v s1 ⟨x,H1,I1,r1,q1⟩=>?_) hs hw;rw[h1];exact thn (hg pins s1 σ H1 x v _ I1 r1 q1) fun _ s2 q=>q
theorem ps_set{i:Nat}{x:Str}{e:Expr}{te:TE}{pos':Pos}(hN:X.N.Nodup)(hi:X.N[i]?=some x)(hx:Loc X.env.scope x)(he:PE X e te)(hs:swapsWith e (some (.Name x pos')) pos.line X.env=pure false:=by rfl)(hf:X.fn x=true∨X.env.scope.names.lookup x=some .local:=by first | exact .inl rfl | exact .inr rfl | assumption) :
 PS X (.Assign [.Name x pos'] e pos) (tAsg te (gName i)):=by
 intro pins s σ H D I h;refine wpAny_Assign_Name (thn (he pins s σ H _ I h) fun v s1 ⟨y,H1,I1,r1,q1⟩=>?_) hs;exact store_ok I1 hN hi hx r1 (fun s2 I2=>⟨_,H1,I2,q1⟩) hf
end
section
variable{X:Cx}{pos:Pos}
end
structure It where
 go:Nat->Hp->Prop
 yld:Nat->Hp->V->Hp->Prop
 stop:Nat->Hp->Prop
noncomputable def FpOk(X:Cx)(pins:List (Addr×Obj))(H:Hp)(b:Addr):Prop:=
 H b=none/\b≠X.env.locals/\b∉X.fs/\(b∈X.ex∨X.s₀.heap.objs.size<=b)/\(∀ x c,X.env.cells.lookup x=some c->c≠b) /\ ∀ p∈X.pn++pins,p.1≠b
theorem Inv.fpOk{X:Cx}{pins:List (Addr×Obj)}{σ:St}{H H':Hp}{s:Shared}{b:Addr}(I:Inv X pins σ H s)(hb:s.heap.objs.size<=b)(hn:H' b=none):FpOk X pins H' b:=by
 refine⟨hn,Nat.ne_of_gt (Nat.lt_of_lt_of_le I.lt hb),I.nofs hb,.inr (Nat.le_trans I.sz hb),fun x c e z=>?_,fun p hp z=>?_⟩
 · obtain⟨v,q⟩:=I.cell x c e
   exact absurd (Nat.lt_of_lt_of_le q.lt (by rw[z];exact hb)) (Nat.lt_irrefl _)
 exact absurd (Nat.lt_of_lt_of_le (Heap.lt_size (I.pin p hp).1) (by rw[z];exact hb)) (Nat.lt_irrefl _)
structure Turn(P:Program)(w:World)(K:W.Frag)(tg:Expr)(J:It)(fp:List Addr)(it:Addr)(tn:Nat->Heap->Prop):Prop where
 mem:it∈fp
 obj:∀ i h,tn i h -> ∀ b∈fp,∃ o,h.get? b=some o /\ ∀ v,o.data ≠ .cell v
 keep:∀ i h h',tn i h->(∀ b∈fp,∀ o,h.get? b=some o->h'.get? b=some o)->tn i h'
 item:∀(X:Cx),X.prog=P->X.w=w->X.K=K->X.calm=true -> ∀(i:Nat) (pins:List (Addr×Obj)) (s:Shared) (σ:St) (H:Hp) (E:Value->Shared->Prop),Inv X pins σ H s->(∀ b∈fp,FpOk X pins H b)->tn i s.heap->J.go i H ->
  wpAny (model P w) X.A (pyNext (.ref it)) (fun r s1=>∃ u,r=some u /\
   wpAny (model P w) X.A (letOwnedTupleGo tg (.ref it) u) (fun _ s2=>∃ x H',Inv X pins σ H' s2/\RelV x u/\J.yld i H x H'/\tn (i+1) s2.heap /\ ∀ b∈fp,H' b=none) E s1) E s
 done:∀(X:Cx),X.prog=P->X.w=w->X.K=K->X.calm=true -> ∀(i:Nat) (pins:List (Addr×Obj)) (s:Shared) (σ:St) (H:Hp) (E:Value->Shared->Prop),Inv X pins σ H s->(∀ b∈fp,FpOk X pins H b)->tn i s.heap->J.stop i H ->
  wpAny (model P w) X.A (pyNext (.ref it)) (fun r s1=>r=none/\Inv X pins σ H s1) E s
 self:∀(A:Around) (i:Nat) (s:Shared) (Q:Value->Shared->Prop) (E:Value->Shared->Prop),tn i s.heap->Q (.ref it) s->wpAny (model P w) A (pyIter (.ref it)) Q E s
noncomputable abbrev TI:=St->Hp->(It->Hp->Prop)->Prop
noncomputable def PIE(X:Cx)(pins:List (Addr×Obj))(σ:St)(tg:Expr)(R:It->Hp->Prop)(itv:Value)(s2:Shared):Prop:=
 ∃(it:Addr) (fp:List Addr) (tn:Nat->Heap->Prop) (J:It) (H':Hp),itv=.ref it/\Inv X pins σ H' s2/\Turn X.prog X.w X.K tg J fp it tn/\tn 0 s2.heap/\(∀ b∈fp,FpOk X pins H' b)/\R J H'
noncomputable def PI(X:Cx)(tg iter:Expr)(wi:TI):Prop:=
 ∀(pins:List (Addr×Obj)) (s:Shared) (σ:St) (H:Hp) (R:It->Hp->Prop),Inv X pins σ H s->wi σ H R ->
   wpAny (model X.prog X.w) X.A (eval iter X.env) (fun v s1=>wpAny (model X.prog X.w) X.A (pyIter v) (PIE X pins σ tg R) X.xe s1) X.xe s
theorem go_of{M:Model}{A:Around}{E:Value->Shared->Prop}{s:Shared}{tg:Expr}{it:Addr}{u:Value}{o:Obj}{n:String}{vs:Array Value}{Q:Unit->Shared->Prop}(ho:s.heap.get? it=some o)(hc:o.cls=.type n)(hd:o.data=.fields vs)
 (hn:["enumerate","zip","dict_itemiterator","dict_reverseitemiterator","odict_iterator","itertools.zip_longest","itertools.pairwise"].contains n=false) (hQ:Q () s):wpAny M A (letOwnedTupleGo tg (.ref it) u) Q E s:=by
 unfold letOwnedTupleGo;cases tg <;> first
  | exact wpAny_pure hQ
  | (cases u <;> first
   | exact wpAny_pure hQ
   | (refine wpAny_bind (wpAny_load ho ?_)
      rw[hc,hd];show wpAny M A (if(["enumerate","zip","dict_itemiterator","dict_reverseitemiterator","odict_iterator","itertools.zip_longest","itertools.pairwise"].contains n && vs[0]? == some (rawInt _))=true then _ else _) Q E s;rw[if_neg (by intro h;rw[hn,Bool.false_and]at h;cases h)]
      exact wpAny_pure hQ))
noncomputable def Itl(K:W.Frag)(a:Addr):It:=
 ⟨fun i H=>∃ xs x,SqL K H a xs/\xs[i]?=some x,fun i H x H'=>H'=H /\ ∀ xs,SqL K H a xs->xs[i]?=some x,fun i H=>∃ xs,SqL K H a xs/\xs.length<=i⟩
noncomputable def Itt(K:W.Frag)(a:Addr):It:=
 ⟨fun i H=>∃ xs x,SqT K H a xs/\xs[i]?=some x,fun i H x H'=>H'=H /\ ∀ xs,SqT K H a xs->xs[i]?=some x,fun i H=>∃ xs,SqT K H a xs/\xs.length<=i⟩
noncomputable def Itr(lo:Int)(n:Nat):It:=⟨fun i _=>i < n,fun i H x H'=>H'=H/\x=.int (lo+i),fun i _=>n<=i⟩
theorem turn_list{P:Program}{w:World}{K:W.Frag}{tg:Expr}(a it:Addr):Turn P w K tg (Itl K a) [it] it (fun i h=>h.IsListIter it a i) where
 mem:=by simp
 obj:=fun i h st b hb=>by
  have e:b=it:=by simpa using hb
  subst e;obtain⟨o,e,c,d⟩:=st;exact⟨o,e,fun v z=>by rw[d]at z;cases z⟩
 keep:=fun i h h' st k=>st.at fun o e=>k it (by simp) o e
 item:=by
  intro X hP hw hK hc i pins s σ H E I hf st hg;subst hP hw hK;obtain⟨xs,x,hq,hx⟩:=hg;obtain⟨its,rv,p,hz⟩:=I.list hq;obtain⟨u,hu,ru⟩:=rv.get hx;obtain⟨f0,f1,f2,f3,f4,f5⟩:=hf it (by simp)
  refine wpAny_pyNext_list_item st p.isList (x:=u) (by simpa using hu) fun h' st' sb=>?_
  have I1:Inv X pins σ H { s with heap:=h' }:=I.turned (t':=s.toks) (fun b o hb e=>(sb.2 b hb).trans e) f0 f1 f3 f4 f5;obtain⟨o,e,c,d⟩:=id st';exact⟨u,rfl,go_of (s:={ s with heap:=h' }) e c d (by decide) ⟨x,H,I1,ru,⟨rfl,fun ys hy=>by rw[I.list_inj hy hq];exact hx⟩,st',fun b hb=>(hf b hb).1⟩⟩
 done:=by
  intro X hP hw hK hc i pins s σ H E I hf st hg;subst hP hw hK;obtain⟨xs,hq,hx⟩:=hg;obtain⟨its,rv,p,hz⟩:=I.list hq;obtain⟨f0,f1,f2,f3,f4,f5⟩:=hf it (by simp)
  have hl:=rv.length;exact wpAny_pyNext_list_end (I.ok.hd hc) st p.isList (by simp;omega) fun h' eb=>⟨rfl,I.turned (t':=s.toks) (fun b o hb e=>eb b o hb e) f0 f1 f3 f4 f5⟩
 self:=fun _ _ _ _ _ st h=>wpAny_pyIter_listiter st h
theorem turn_tuple{P:Program}{w:World}{K:W.Frag}{tg:Expr}(a it:Addr):Turn P w K tg (Itt K a) [it] it (fun i h=>h.IsTupleIter it a i) where
 mem:=by simp
 obj:=fun i h st b hb=>by
  have e:b=it:=by simpa using hb
  subst e;obtain⟨o,e,c,d⟩:=st;exact⟨o,e,fun v z=>by rw[d]at z;cases z⟩
 keep:=fun i h h' st k=>st.at fun o e=>k it (by simp) o e
 item:=by
  intro X hP hw hK hc i pins s σ H E I hf st hg;subst hP hw hK;obtain⟨xs,x,hq,hx⟩:=hg;obtain⟨its,rv,p,hz⟩:=I.tuple hq;obtain⟨u,hu,ru⟩:=rv.get hx;obtain⟨f0,f1,f2,f3,f4,f5⟩:=hf it (by simp)
  refine wpAny_pyNext_tuple_item st (show s.heap.IsTuple a its.toArray from p) (x:=u) (by simpa using hu) fun h' st' sb=>?_
  have I1:Inv X pins σ H { s with heap:=h' }:=I.turned (t':=s.toks) (fun b o hb e=>(sb.2 b hb).trans e) f0 f1 f3 f4 f5;obtain⟨o,e,c,d⟩:=id st';exact⟨u,rfl,go_of (s:={ s with heap:=h' }) e c d (by decide) ⟨x,H,I1,ru,⟨rfl,fun ys hy=>by rw[I.tuple_inj hy hq];exact hx⟩,st',fun b hb=>(hf b hb).1⟩⟩
 done:=by
  intro X hP hw hK hc i pins s σ H E I hf st hg;subst hP hw hK;obtain⟨xs,hq,hx⟩:=hg;obtain⟨its,rv,p,hz⟩:=I.tuple hq;obtain⟨f0,f1,f2,f3,f4,f5⟩:=hf it (by simp)
  have hl:=rv.length;exact wpAny_pyNext_tuple_end (I.ok.hd hc) st (show s.heap.IsTuple a its.toArray from p) (by simp;omega) fun h' eb=>⟨rfl,I.turned (t':=s.toks) (fun b o hb e=>eb b o hb e) f0 f1 f3 f4 f5⟩
 self:=fun _ _ _ _ _ st h=>wpAny_pyIter_tupleiter st h
theorem turn_range{P:Program}{w:World}{K:PySem.W.Frag}{tg:Expr}(it:Addr)(lo:Int)(n:Nat):Turn P w K tg (Itr lo n) [it] it (fun i h=>IsRangeIter h it (lo+(i:Nat)*1) ((n:Int) - (i:Nat)) 1) where
 mem:=by simp
 obj:=fun i h st b hb=>by
  have e:b=it:=by simpa using hb
  subst e;exact⟨_,st,fun v z=>by
   have z':Data.fields _=Data.cell v:=z;cases z'⟩
 keep:=fun i h h' st k=>k it (by simp) _ st
 item:=by
  intro X hP hw hK hc i pins s σ H E I hf st hg;subst hP hw hK;obtain⟨f0,f1,f2,f3,f4,f5⟩:=hf it (by simp)
  have W:=Walks.range (prog:=X.prog) (w:=X.w) (I.ok.hd hc) it lo 1 n;refine W.item i s _ _ hg st fun v h' tk hv st' kk=>?_;obtain⟨t,rfl⟩:=hv;have I1:Inv X pins σ H { s with heap:=h',toks:=tk }:=I.turned (fun b o hb e=>kk b o (by simpa using hb) e) f0 f1 f3 f4 f5
  refine⟨_,rfl,go_of (s:={ s with heap:=h',toks:=tk }) (n:="range_iterator") st' rfl rfl (by decide) ⟨.int (lo+i),H,I1,⟨t,?_⟩,⟨rfl,rfl⟩,st',fun b hb=>(hf b hb).1⟩⟩
  rw[Int.mul_one]
 done:=by
  intro X hP hw hK hc i pins s σ H E I hf st hg;subst hP hw hK;obtain⟨f0,f1,f2,f3,f4,f5⟩:=hf it (by simp)
  exact wpAny_pyNext_range_end (I.ok.hd hc) st (by have:n<=i:=hg;omega) fun h' eb=>⟨rfl,I.turned (t':=s.toks) (fun b o hb e=>eb b o hb e) f0 f1 f3 f4 f5⟩
 self:=fun _ _ _ _ _ st h=>wpAny_pyIter_rangeiter st h
end L2
namespace L2
open PySem PySem.Spec PyProof.Rows
section
variable{X:Cx}{tg:Expr}
noncomputable def iList(K:W.Frag)(tl:TE):TI:=fun σ H R=>tl σ H fun x H1=>∃ a,x=.ref a/\(∃ xs,SqL K H1 a xs)/\R (Itl K a) H1
noncomputable def iTup(K:W.Frag)(tl:TE):TI:=fun σ H R=>tl σ H fun x H1=>∃ a,x=.ref a/\(∃ xs,SqT K H1 a xs)/\R (Itt K a) H1
theorem pi_list{l:Expr}{tl:TE}(hl:PE X l tl):PI X tg l (iList X.K tl):=by
 intro pins s σ H R I h;refine thn (hl pins s σ H _ I h) fun v s1 zz=>?_;obtain⟨x,H1,I1,r1,q1⟩:=zz;obtain⟨a,e,⟨xs,hq⟩,q⟩:=q1;subst e;cases r1;obtain⟨its,rv,p,hz⟩:=I1.list hq;refine wpAny_pyIter_list p.isList ?_;refine⟨s1.heap.objs.size,[s1.heap.objs.size],_,_,H1,rfl,I1.kept (t':=s1.toks) fun b o e=>Heap.get?_push_of_some _ e,turn_list a _,⟨_,Heap.get?_push_size _ rfl,rfl,rfl⟩,fun b hb=>?_,q⟩;have e:b=s1.heap.objs.size:=by simpa using hb
 subst e;exact I1.fpOk (Nat.le_refl _) (I1.hok.fresh (Nat.le_refl _))
theorem pi_tup{l:Expr}{tl:TE}(hl:PE X l tl):PI X tg l (iTup X.K tl):=by
 intro pins s σ H R I h;refine thn (hl pins s σ H _ I h) fun v s1 zz=>?_;obtain⟨x,H1,I1,r1,q1⟩:=zz;obtain⟨a,e,⟨xs,hq⟩,q⟩:=q1;subst e;cases r1;obtain⟨its,rv,p,hz⟩:=I1.tuple hq;refine wpAny_pyIter_tuple (show s1.heap.IsTuple a its.toArray from p) ?_;refine⟨s1.heap.objs.size,[s1.heap.objs.size],_,_,H1,rfl,I1.kept (t':=s1.toks) fun b o e=>Heap.get?_push_of_some _ e,turn_tuple a _,⟨_,Heap.get?_push_size _ rfl,rfl,rfl⟩,fun b hb=>?_,q⟩;have e:b=s1.heap.objs.size:=by simpa using hb
 subst e;exact I1.fpOk (Nat.le_refl _) (I1.hok.fresh (Nat.le_refl _))
theorem range_it{pins:List (Addr×Obj)}{σ:St}{H:Hp}{s:Shared}{R:It->Hp->Prop}{E:Value->Shared->Prop}{lo hi:Int}{t u v:Tok}{tk:Nat}(I:Inv X pins σ H s)(h1:-(2 ^ 62)<=lo)(h2:lo < 2 ^ 62)(h3:-(2 ^ 62)<=hi)(h4:hi < 2 ^ 62)
 (q:R (Itr lo (hi - lo).toNat) H):wpAny (model X.prog X.w) X.A (pyIter (.ref s.heap.objs.size)) (PIE X pins σ tg R) E { s with heap:=s.heap.push { cls:=.type "range",data:=.fields #[.int lo t,.int hi u,.int 1 v] },toks:=tk }:=by
 refine wpAny_pyIter_range (IsRange.new ..) (small_one h1 h2 h3 h4) ?_;have I1:Inv X pins σ H { s with heap:=s.heap.push { cls:=.type "range",data:=.fields #[.int lo t,.int hi u,.int 1 v] },toks:=tk }:=I.kept fun b o e=>Heap.get?_push_of_some _ e;refine⟨(s.heap.push { cls:=.type "range",data:=.fields #[.int lo t,.int hi u,.int 1 v] }).objs.size,[(s.heap.push { cls:=.type "range",data:=.fields #[.int lo t,.int hi u,.int 1 v] }).objs.size],_,_,H,rfl,
  I1.kept (t':=tk) fun b o e=>Heap.get?_push_of_some _ e,turn_range _ lo (hi - lo).toNat,?_,fun b hb=>?_,q⟩
 · have e1:lo+((0:Nat):Int)*1=lo:=by simp
   have e2:(((hi - lo).toNat:Nat):Int) - ((0:Nat):Int)=Builtin.Range.rangeSize lo hi 1:=by rw[rangeSize_one];split <;> omega
   show IsRangeIter _ _ (lo+((0:Nat):Int)*1) ((((hi - lo).toNat:Nat):Int) - ((0:Nat):Int)) 1;rw[e1,e2];exact Heap.get?_push_size _ rfl
 have e:b=(s.heap.push { cls:=.type "range",data:=.fields #[.int lo t,.int hi u,.int 1 v] }).objs.size:=by simpa using hb
 subst e;exact I1.fpOk (Nat.le_refl _) (I1.hok.fresh (Nat.le_refl _))
noncomputable def iRng1(ta:TA):TI:=fun σ H R=>ta σ H fun vs H1=>∃ j:Int,vs=[.int j] /\ -(2 ^ 62)<=j/\j < 2 ^ 62/\R (Itr 0 j.toNat) H1
theorem pi_range1{a:Expr}{ta:TA}{p pos:Pos}(hg:Gl X "range")(hm:X.mg "range"=none)(ha:PA X [a] ta)(hs:starEach [a] X.env=[(false,eval a X.env)]:=by rfl):PI X tg (.Call (.Name "range" p) [a] [] pos) (iRng1 ta):=by
 intro pins s σ H R I h;refine Call_ (ld_blt I hg hm boot_range (PyProof.Rows.callWith_type1 (thn (ha pos pins s σ H _ I h) fun us s1 ⟨vs,H1,I1,r1,q1⟩=>?_) hs rfl));obtain⟨j,e,q1,q2,q⟩:=q1;subst e;cases r1 with
 | cons r rr=>
   cases rr;obtain⟨t,rfl⟩:=r;exact call_range_1 (range_it I1 (by omega) (by omega) q1 q2 (by simpa using q))
noncomputable def tFor(wi:TI)(g:TG)(tb:TS):TS:=fun D σ H=>wi σ H fun J H1=>∃ W:Nat->Nat->St->Hp->Prop,(∃ m,W 0 m σ H1) /\ ∀ i m σ H,W i m σ H ->
 (J.stop i H/\D.nx σ H)∨(J.go i H /\ ∃ N:St->Hp->Prop,(∀ σ' H',N σ' H' -> ∃ m',m' < m/\W (i+1) m' σ' H') /\ ∀ x H',J.yld i H x H'->g x σ H' fun σ2 H2=>tb { D with nx:=N,ct:=N,bk:=D.nx } σ2 H2)
noncomputable def pinsAt(fp:List Addr)(h:Heap):List (Addr×Obj):=fp.filterMap fun b=>(h.get? b).map fun o=>(b,o)
theorem mem_pinsAt{fp:List Addr}{h:Heap}{b:Addr}{o:Obj}(hb:b∈fp)(e:h.get? b=some o):(b,o)∈pinsAt fp h:=List.mem_filterMap.mpr ⟨b,hb,by rw[e];rfl⟩
theorem of_pinsAt{fp:List Addr}{h:Heap}{p:Addr×Obj}(hp:p∈pinsAt fp h):p.1∈fp/\h.get? p.1=some p.2:=by
 obtain⟨b,hb,e⟩:=List.mem_filterMap.mp hp;cases q:h.get? b with
 | none=>rw[q]at e;cases e
 | some o=>
   rw[q]at e;have e':(b,o)=p:=Option.some.inj e;subst e';exact⟨hb,q⟩
theorem Inv.pinned{pins:List (Addr×Obj)}{σ:St}{H:Hp}{s:Shared}{fp:List Addr}(I:Inv X pins σ H s)(hf:∀ b∈fp,FpOk X pins H b)(ho:∀ b∈fp,∃ o,s.heap.get? b=some o /\ ∀ v,o.data ≠ .cell v):Inv X (pins++pinsAt fp s.heap) σ H s:=
 I.pins_of fun p hp=>(List.mem_append.mp hp).elim (fun z=>I.pin p (List.mem_append_right _ z)) fun z=>by
  obtain⟨hb,e⟩:=of_pinsAt z;obtain⟨f0,f1,f2,_⟩:=hf p.1 hb;obtain⟨o,e',d⟩:=ho p.1 hb;rw[e]at e';cases e';exact⟨e,f0,f1,f2,d⟩
theorem Inv.unpinned{pins pl:List (Addr×Obj)}{σ:St}{H:Hp}{s:Shared}(I:Inv X (pins++pl) σ H s):Inv X pins σ H s:=I.pins_of fun p hp=>I.pin p (List.mem_append_right _ (List.mem_append_left _ hp))
theorem ps_for{iter:Expr}{body:List Stmt}{wi:TI}{g:TG}{tb:TS}{pos:Pos}(hp:PassesOwn (model X.prog X.w) X.A X.env X.xe)(hc:X.calm=true)(hi:PI X tg iter wi)(hg:PG X tg g)(hb:PSs X body tb)
 (hs:∀ x,foldedSetIterable iter X.env x=pure x:=by intro _;rfl):PS X (.For tg iter body [] pos) (tFor wi g tb):=by
 intro pins s σ H D I h;refine wpAny_For (thn (hi pins s σ H _ I h) fun v s1 h1=>thn h1 fun itv s2 h2=>?_) hs;obtain⟨it,fp,tn,J,H2,e,I2,T,st2,f2,W,⟨m0,w0⟩,turn⟩:=h2;subst e
 -- what stays true of the iterator's objects through the loop
 have stat:∀{H':Hp},(∀ b∈fp,H' b=none) -> ∀ b∈fp,FpOk X pins H' b:=fun hn b hb=>⟨hn b hb,(f2 b hb).2⟩;refine codeAny_forLoop_any (fun n s'=>∃ i σ' H',Inv X pins σ' H' s'/\tn i s'.heap/\(∀ b∈fp,H' b=none)/\W i n σ' H') ?_ m0 ⟨0,σ,H2,I2,st2,fun b hb=>(f2 b hb).1,w0⟩;rintro n s3 ⟨i,σ3,H3,I3,st3,fr3,w3⟩;rcases turn i n σ3 H3 w3 with ⟨stop,qn⟩ | ⟨go,N,hN,step⟩
 · refine wpAny_passesOwn hp (thn (T.done X rfl rfl rfl hc i pins s3 σ3 H3 X.xe I3 (stat fr3) st3 stop) fun r s4 zz=>?_)
   obtain⟨hr,I4⟩:=zz;subst hr;exact wpAny_execs_nil ⟨σ3,H3,I4,qn⟩
 refine wpAny_passesOwn hp (thn (T.item X rfl rfl rfl hc i pins s3 σ3 H3 X.xe I3 (stat fr3) st3 go) fun r s4 zz=>?_);obtain⟨u,hr,h4⟩:=zz;subst hr;refine wpAny_passesOwn hp (thn h4 fun _ s5 zz=>?_);obtain⟨x,H5,I5,r5,y5,st5,fr5⟩:=zz;have I5':=I5.pinned (stat fr5) (T.obj _ _ st5);refine wpAny_passesOwn hp (thn (hg _ s5 σ3 H5 x u _ I5' r5 (step x H5 y5)) fun _ s6 zz=>?_);obtain⟨σ6,H6,I6,q6⟩:=zz;refine wpAny_passesOwn hp (thn (hb _ s6 σ6 H6 _ I6 q6) fun f s7 q7=>?_);have again:∀{σ7:St}{H7:Hp},Inv X (pins++pinsAt fp s5.heap) σ7 H7 s7->N σ7 H7 -> ∃ m,m < n /\ ∃ i σ' H',Inv X pins σ' H' s7/\tn i s7.heap/\(∀ b∈fp,H' b=none)/\W i m σ' H':=fun {σ7 H7} I7 n7=>by
  obtain⟨m',hm,w7⟩:=hN σ7 H7 n7;refine⟨m',hm,i+1,σ7,H7,I7.unpinned,T.keep _ _ _ st5 fun b hb o e=>(I7.pin (b,o) (List.mem_append_right _ (List.mem_append_right _ (mem_pinsAt hb e)))).1,fun b hb=>?_,w7⟩;obtain⟨o,e,d⟩:=T.obj _ _ st5 b hb;exact(I7.pin (b,o) (List.mem_append_right _ (List.mem_append_right _ (mem_pinsAt hb e)))).2.1
 cases f with
 | next=>obtain⟨σ7,H7,I7,n7⟩:=q7;exact again I7 n7
 | cont=>obtain⟨σ7,H7,I7,n7⟩:=q7;exact again I7 n7
 | brk=>obtain⟨σ7,H7,I7,q7⟩:=q7;exact⟨σ7,H7,I7.unpinned,q7⟩
 | ret v=>obtain⟨x7,σ7,H7,I7,r7,q7⟩:=q7;exact⟨x7,σ7,H7,I7.unpinned,r7,q7⟩
end
theorem for_list{K:PySem.W.Frag}{a:Addr}{xs:List V}{g:TG}{tb:TS}{D:Ends}{σ:St}{H:Hp}(Pv:Nat->St->Hp->Prop)(h0:Pv 0 σ H)(hl:∀ i σ H,i<=xs.length->Pv i σ H->SqL K H a xs)
 (hs:∀ i x σ H,xs[i]?=some x->Pv i σ H->g x σ H fun σ2 H2=>tb { D with nx:=Pv (i+1),ct:=Pv (i+1),bk:=D.nx } σ2 H2) (hd:∀ σ H,Pv xs.length σ H->D.nx σ H) :
 ∃ W:Nat->Nat->St->Hp->Prop,(∃ m,W 0 m σ H) /\ ∀ i m σ H,W i m σ H ->
   ((Itl K a).stop i H/\D.nx σ H)∨((Itl K a).go i H /\ ∃ N:St->Hp->Prop,(∀ σ' H',N σ' H' -> ∃ m',m' < m/\W (i+1) m' σ' H') /\ ∀ x H',(Itl K a).yld i H x H'->g x σ H' fun σ2 H2=>tb { D with nx:=N,ct:=N,bk:=D.nx } σ2 H2):=by
 refine⟨fun i m σ H=>m=xs.length - i/\i<=xs.length/\Pv i σ H,⟨xs.length,by simp,Nat.zero_le _,h0⟩,?_⟩
 rintro i m σ H ⟨rfl,hi,p⟩;have q:=hl i σ H hi p;by_cases hlt:i < xs.length
 · refine .inr ⟨⟨xs,xs[i],q,by simp[hlt]⟩,Pv (i+1),fun σ' H' p'=>⟨xs.length - (i+1),by omega,rfl,hlt,p'⟩,fun x H' y=>?_⟩
   obtain⟨e,y⟩:=y;subst e;exact hs i x σ _ (y xs q) p
 have e:i=xs.length:=by omega
 subst e;exact .inl ⟨⟨xs,q,Nat.le_refl _⟩,hd σ H p⟩
theorem for_tup{K:PySem.W.Frag}{a:Addr}{xs:List V}{g:TG}{tb:TS}{D:Ends}{σ:St}{H:Hp}(Pv:Nat->St->Hp->Prop)(h0:Pv 0 σ H)(hl:∀ i σ H,i<=xs.length->Pv i σ H->SqT K H a xs)
 (hs:∀ i x σ H,xs[i]?=some x->Pv i σ H->g x σ H fun σ2 H2=>tb { D with nx:=Pv (i+1),ct:=Pv (i+1),bk:=D.nx } σ2 H2) (hd:∀ σ H,Pv xs.length σ H->D.nx σ H) :
 ∃ W:Nat->Nat->St->Hp->Prop,(∃ m,W 0 m σ H) /\ ∀ i m σ H,W i m σ H ->
   ((Itt K a).stop i H/\D.nx σ H)∨((Itt K a).go i H /\ ∃ N:St->Hp->Prop,(∀ σ' H',N σ' H' -> ∃ m',m' < m/\W (i+1) m' σ' H') /\ ∀ x H',(Itt K a).yld i H x H'->g x σ H' fun σ2 H2=>tb { D with nx:=N,ct:=N,bk:=D.nx } σ2 H2):=by
 refine⟨fun i m σ H=>m=xs.length - i/\i<=xs.length/\Pv i σ H,⟨xs.length,by simp,Nat.zero_le _,h0⟩,?_⟩
 rintro i m σ H ⟨rfl,hi,p⟩;have q:=hl i σ H hi p;by_cases hlt:i < xs.length
 · refine .inr ⟨⟨xs,xs[i],q,by simp[hlt]⟩,Pv (i+1),fun σ' H' p'=>⟨xs.length - (i+1),by omega,rfl,hlt,p'⟩,fun x H' y=>?_⟩
   obtain⟨e,y⟩:=y;subst e;exact hs i x σ _ (y xs q) p
 have e:i=xs.length:=by omega
 subst e;exact .inl ⟨⟨xs,q,Nat.le_refl _⟩,hd σ H p⟩
theorem for_range{lo:Int}{n:Nat}{g:TG}{tb:TS}{D:Ends}{σ:St}{H:Hp}(Pv:Nat->St->Hp->Prop)(h0:Pv 0 σ H)
 (hs:∀ i σ H,i < n->Pv i σ H->g (.int (lo+i)) σ H fun σ2 H2=>tb { D with nx:=Pv (i+1),ct:=Pv (i+1),bk:=D.nx } σ2 H2) (hd:∀ σ H,Pv n σ H->D.nx σ H) :
 ∃ W:Nat->Nat->St->Hp->Prop,(∃ m,W 0 m σ H) /\ ∀ i m σ H,W i m σ H ->
   ((Itr lo n).stop i H/\D.nx σ H)∨((Itr lo n).go i H /\ ∃ N:St->Hp->Prop,(∀ σ' H',N σ' H' -> ∃ m',m' < m/\W (i+1) m' σ' H') /\ ∀ x H',(Itr lo n).yld i H x H'->g x σ H' fun σ2 H2=>tb { D with nx:=N,ct:=N,bk:=D.nx } σ2 H2):=by
 refine⟨fun i m σ H=>m=n - i/\i<=n/\Pv i σ H,⟨n,by simp,Nat.zero_le _,h0⟩,?_⟩
 rintro i m σ H ⟨rfl,hi,p⟩;by_cases hlt:i < n
 · refine .inr ⟨hlt,Pv (i+1),fun σ' H' p'=>⟨n - (i+1),by omega,rfl,hlt,p'⟩,fun x H' y=>?_⟩
   obtain⟨e,y⟩:=y;subst e y;exact hs i σ _ hlt p
 have e:i=n:=by omega
 subst e;exact .inl ⟨Nat.le_refl _,hd σ H p⟩
end L2
namespace L2
open PySem PySem.Spec PyProof.Rows
noncomputable abbrev R2:=V->V->Hp->VK->Prop
noncomputable def OpR(X:Cx)(f:Value->Value->Sem Value)(r:R2):Prop:=
 ∀(pins:List (Addr×Obj)) (s:Shared) (σ:St) (H:Hp) (x y:V) (v u:Value) (Q:VK),Inv X pins σ H s->RelV x v->RelV y u->r x y H Q ->
   wpAny (model X.prog X.w) X.A (f v u) (EP X pins σ Q) X.xe s
noncomputable def UnR(X:Cx)(f:Value->Sem Value)(r:V->Hp->VK->Prop):Prop:=
 ∀(pins:List (Addr×Obj)) (s:Shared) (σ:St) (H:Hp) (x:V) (v:Value) (Q:VK),Inv X pins σ H s->RelV x v->r x H Q ->
   wpAny (model X.prog X.w) X.A (f v) (EP X pins σ Q) X.xe s
noncomputable def CallR(X:Cx)(f:Value)(r:List V->Hp->VK->Prop):Prop:=
 ∀(pins:List (Addr×Obj)) (s:Shared) (σ:St) (H:Hp) (xs:List V) (us:List Value) (Q:VK),Inv X pins σ H s->Vals xs us->r xs H Q ->
   wpAny (model X.prog X.w) X.A (call f us) (EP X pins σ Q) X.xe s
noncomputable def tOp(r:R2)(ta tb:TE):TE:=fun σ H Q=>ta σ H fun x H1=>tb σ H1 fun y H2=>r x y H2 Q
noncomputable def tUn(r:V->Hp->VK->Prop)(ta:TE):TE:=fun σ H Q=>ta σ H fun x H1=>r x H1 Q
noncomputable def rI(C:Int->Int->Prop)(g:Int->Int->V):R2:=fun x y H Q=>∃ i j,x=.int i/\y=.int j/\C i j/\Q (g i j) H
noncomputable def rI0(g:Int->Int->V):R2:=fun x y H Q=>∃ i j,x=.int i/\y=.int j/\Q (g i j) H
noncomputable def rU(g:Int->V):V->Hp->VK->Prop:=fun x H Q=>∃ i,x=.int i/\Q (g i) H
section
variable{X:Cx}{a b c:Expr}{ta tb tc:TE}{pos:Pos}
theorem binT(ha:PE X a ta)(hb:PE X b tb){pins:List (Addr×Obj)}{s:Shared}{σ:St}{H:Hp}{R:V->V->Hp->Prop}(I:Inv X pins σ H s)
 (h:ta σ H fun x H1=>tb σ H1 fun y H2=>R x y H2) {Q:Value->Shared->Prop}{f:Value->Value->Sem Value}
 (hf:∀ v u s2 x y H2,Inv X pins σ H2 s2->RelV x v->RelV y u->R x y H2->wpAny (model X.prog X.w) X.A (f v u) Q X.xe s2) :
 wpAny (model X.prog X.w) X.A (eval a X.env) (fun v s₁=>wpAny (model X.prog X.w) X.A (eval b X.env) (fun u s₂=>wpAny (model X.prog X.w) X.A (f v u) Q X.xe s₂) X.xe s₁) X.xe s:=by
 refine thn (ha pins s σ H _ I h) fun v s1 zz=>?_;obtain⟨x,H1,I1,r1,q1⟩:=zz;refine thn (hb pins s1 σ H1 _ I1 q1) fun u s2 zz=>?_;obtain⟨y,H2,I2,r2,q2⟩:=zz;exact hf v u s2 x y H2 I2 r1 r2 q2
theorem pe_op{op:Operator}{r:R2}(ho:OpR X (binaryOp op) r)(ha:PE X a ta)(hb:PE X b tb):PE X (.BinOp a op b pos) (tOp r ta tb):=by
 intro pins s σ H Q I h;exact wpAny_BinOp (binT ha hb I h fun v u s2 x y H2 I2 rx ry q=>ho pins s2 σ H2 x y v u Q I2 rx ry q)
theorem pe_un{op:UnaryOp}{r:V->Hp->VK->Prop}(ho:UnR X (unaryOp op) r)(ha:PE X a ta):PE X (.UnaryOp op a pos) (tUn r ta):=by
 intro pins s σ H Q I h;exact UnaryOp_ (thn (ha pins s σ H _ I h) fun v s1 ⟨x,H1,I1,r1,q1⟩=>ho pins s1 σ H1 x v Q I1 r1 q1)
theorem opI{f:Value->Value->Sem Value}{C:Int->Int->Prop}{g:Int->Int->Int}
 (rule:∀(i j:Int) (t u:Tok) (s:Shared) (Q:Value->Shared->Prop) (E:Value->Shared->Prop),C i j->Q (.int (g i j) s.toks) { s with toks:=s.toks+1 } -> wpAny (model X.prog X.w) X.A (f (.int i t) (.int j u)) Q E s) :
 OpR X f (rI C fun i j=>.int (g i j)):=by
 intro pins s σ H x y v u Q I rx ry h;obtain⟨i,j,rfl,rfl,hc,q⟩:=h;obtain⟨t,rfl⟩:=rx;obtain⟨t',rfl⟩:=ry;exact rule i j t t' s _ _ hc ⟨.int (g i j),H,I.tok _,⟨_,rfl⟩,q⟩
theorem opI0{f:Value->Value->Sem Value}{g:Int->Int->Int}
 (rule:∀(i j:Int) (t u:Tok) (s:Shared) (Q:Value->Shared->Prop) (E:Value->Shared->Prop),Q (.int (g i j) s.toks) { s with toks:=s.toks+1 } -> wpAny (model X.prog X.w) X.A (f (.int i t) (.int j u)) Q E s) :
 OpR X f (rI0 fun i j=>.int (g i j)):=by
 intro pins s σ H x y v u Q I rx ry h;obtain⟨i,j,rfl,rfl,q⟩:=h;obtain⟨t,rfl⟩:=rx;obtain⟨t',rfl⟩:=ry;exact rule i j t t' s _ _ ⟨.int (g i j),H,I.tok _,⟨_,rfl⟩,q⟩
theorem opB0{f:Value->Value->Sem Value}{g:Int->Int->Bool}
 (rule:∀(i j:Int) (t u:Tok) (s:Shared) (Q:Value->Shared->Prop) (E:Value->Shared->Prop),Q (.bool (g i j)) s->wpAny (model X.prog X.w) X.A (f (.int i t) (.int j u)) Q E s) :
 OpR X f (rI0 fun i j=>.bl (g i j)):=by
 intro pins s σ H x y v u Q I rx ry h;obtain⟨i,j,rfl,rfl,q⟩:=h;obtain⟨t,rfl⟩:=rx;obtain⟨t',rfl⟩:=ry;exact rule i j t t' s _ _ ⟨.bl (g i j),H,I,rfl,q⟩
noncomputable def CPow(i j:Int):Prop:=0<=j/\j<=1000000/\i.natAbs < 2 ^ 64
noncomputable def CMul(i j:Int):Prop:=(-(2 ^ 64) < i/\i < 2 ^ 64)∨(-(2 ^ 64) < j/\j < 2 ^ 64)
theorem CMul.ok{i j:Int}(h:CMul i j):IntMulOk i j:=by
 rcases h with ⟨h1,h2⟩ | ⟨h1,h2⟩
 · exact .of_left (intBits_le_64 h1 h2)
 exact .of_right (intBits_le_64 h1 h2)
theorem op_add:OpR X (binaryOp .Add) (rI0 fun i j=>.int (i+j)):=opI0 fun _ _ _ _ _ _ _ q=>add_int q
theorem op_sub:OpR X (binaryOp .Sub) (rI0 fun i j=>.int (i - j)):=opI0 fun _ _ _ _ _ _ _ q=>sub_int q
theorem op_mul:OpR X (binaryOp .Mult) (rI CMul fun i j=>.int (i*j)):=opI fun _ _ _ _ _ _ _ hc q=>mul_int q hc.ok
theorem op_mod:OpR X (binaryOp .Mod) (rI (fun _ j=>0 < j) fun i j=>.int (i % j)):=opI fun i j _ _ _ _ _ hc q=>by
 have h1:(0:Int) < j:=hc;exact mod_int' (by omega) (by rw[Int.fmod_eq_emod_of_nonneg i (by omega)];exact q)
theorem op_pow:OpR X (binaryOp .Pow) (rI CPow fun i j=>.int (i ^ j.toNat)):=opI fun _ _ _ _ _ _ _ hc q=>pow_int_small hc.1 hc.2.1 hc.2.2 q
theorem unI{f:Value->Sem Value}{g:Int->Int}
 (rule:∀(i:Int) (t:Tok) (s:Shared) (Q:Value->Shared->Prop) (E:Value->Shared->Prop),Q (.int (g i) s.toks) { s with toks:=s.toks+1 } -> wpAny (model X.prog X.w) X.A (f (.int i t)) Q E s) :
 UnR X f (rU fun i=>.int (g i)):=by
 intro pins s σ H x v Q I rx h;obtain⟨i,rfl,q⟩:=h;obtain⟨t,rfl⟩:=rx;exact rule i t s _ _ ⟨.int (g i),H,I.tok _,⟨_,rfl⟩,q⟩
theorem un_neg:UnR X (unaryOp .USub) (rU fun i=>.int (-i)):=unI fun _ _ _ _ _ q=>neg_int q
end
noncomputable def scal:V->V->Bool
 | .non,.non=>true | .non,.int _=>true | .int _,.non=>true | .non,.bl _=>true | .bl _,.non=>true | .non,.str _=>true | .str _,.non=>true
 | .int _,.int _=>true | .bl _,.bl _=>true | .str _,.str _=>true | .byt _,.byt _=>true
 | .int _,.str _=>true | .str _,.int _=>true | .bl _,.str _=>true | .str _,.bl _=>true
 | _,_=>false
noncomputable def rEq:R2:=fun x y H Q=>scal x y=true/\Q (.bl (decide (x=y))) H
noncomputable def rNe:R2:=fun x y H Q=>scal x y=true/\Q (.bl (!decide (x=y))) H
theorem dec_int{i j:Int}:decide (V.int i=V.int j)=(i == j):=by
 rw[Bool.eq_iff_iff];simp
theorem dec_bl{i j:Bool}:decide (V.bl i=V.bl j)=(i == j):=by
 rw[Bool.eq_iff_iff];simp
theorem dec_str{i j:Str}:decide (V.str i=V.str j)=(i == j):=by
 rw[Bool.eq_iff_iff];simp
theorem dec_byt{i j:Array UInt8}:decide (V.byt i=V.byt j)=(i.toList == j.toList):=by
 rw[Bool.eq_iff_iff];cases i;cases j;simp
section
variable{X:Cx}{a b c:Expr}{ta tb tc:TE}{pos:Pos}
theorem fin_bl{pins:List (Addr×Obj)}{σ:St}{H:Hp}{s:Shared}{Q:VK}{k k':Bool}(I:Inv X pins σ H s)(q:Q (.bl k) H)(e:k=k'):EP X pins σ Q (.bool k') s:=by
 subst e;exact⟨.bl k,H,I,rfl,q⟩
theorem op_eq:OpR X (compareOp .Eq) rEq:=by
 intro pins s σ H x y v u Q I rx ry h;obtain⟨hs,q⟩:=h;cases x with
 | non=>
   cases rx;cases y with
   | non=>cases ry;exact PySem.EqNone.eq_none_none (fin_bl I q (by simp))
   | bl j=>cases ry;exact PySem.EqNone.eq_none_bool (fin_bl I q (by simp))
   | int j=>obtain⟨t',rfl⟩:=ry;exact PySem.EqNone.eq_none_int (fin_bl I q (by simp))
   | str j=>obtain⟨t',rfl⟩:=ry;exact PySem.EqNone.eq_none_str (fin_bl I q (by simp))
   | _=>exact absurd (show false=true from hs) Bool.false_ne_true
 | bl i=>
   cases rx;cases y with
   | non=>cases ry;exact PySem.EqNone.eq_bool_none (fin_bl I q (by simp))
   | bl j=>cases ry;exact eq_bool (fin_bl I q dec_bl)
   | str j=>obtain⟨t',rfl⟩:=ry;exact PySem.EqMixed.eq_bool_str (fin_bl I q (by simp))
   | _=>exact absurd (show false=true from hs) Bool.false_ne_true
 | int i=>
   obtain⟨t,rfl⟩:=rx;cases y with
   | non=>cases ry;exact PySem.EqNone.eq_int_none (fin_bl I q (by simp))
   | int j=>obtain⟨t',rfl⟩:=ry;exact eq_int (fin_bl I q dec_int)
   | str j=>obtain⟨t',rfl⟩:=ry;exact PySem.EqMixed.eq_int_str (fin_bl I q (by simp))
   | _=>exact absurd (show false=true from hs) Bool.false_ne_true
 | str i=>
   obtain⟨t,rfl⟩:=rx;cases y with
   | non=>cases ry;exact PySem.EqNone.eq_str_none (fin_bl I q (by simp))
   | bl j=>cases ry;exact PySem.EqMixed.eq_str_bool (fin_bl I q (by simp))
   | int j=>obtain⟨t',rfl⟩:=ry;exact PySem.EqMixed.eq_str_int (fin_bl I q (by simp))
   | str j=>obtain⟨t',rfl⟩:=ry;exact eq_str (fin_bl I q dec_str)
   | _=>exact absurd (show false=true from hs) Bool.false_ne_true
 | byt i=>
   obtain⟨t,rfl⟩:=rx;cases y with
   | byt j=>obtain⟨t',rfl⟩:=ry;exact W.eq_bytes (fin_bl I q dec_byt)
   | _=>exact absurd (show false=true from hs) Bool.false_ne_true
 | _=>cases y <;> exact absurd (show false=true from hs) Bool.false_ne_true
theorem op_ne:OpR X (compareOp .NotEq) rNe:=by
 intro pins s σ H x y v u Q I rx ry h;obtain⟨hs,q⟩:=h;cases x with
 | non=>
   cases rx;cases y with
   | non=>cases ry;exact PySem.EqNone.ne_none_none (fin_bl I q (by simp))
   | bl j=>cases ry;exact PySem.EqNone.ne_none_bool (fin_bl I q (by simp))
   | int j=>obtain⟨t',rfl⟩:=ry;exact PySem.EqNone.ne_none_int (fin_bl I q (by simp))
   | str j=>obtain⟨t',rfl⟩:=ry;exact PySem.EqNone.ne_none_str (fin_bl I q (by simp))
   | _=>exact absurd (show false=true from hs) Bool.false_ne_true
 | bl i=>
   cases rx;cases y with
   | non=>cases ry;exact PySem.EqNone.ne_bool_none (fin_bl I q (by simp))
   | bl j=>cases ry;exact ne_bool (fin_bl I q (congrArg not dec_bl))
   | str j=>obtain⟨t',rfl⟩:=ry;exact PySem.EqMixed.ne_bool_str (fin_bl I q (by simp))
   | _=>exact absurd (show false=true from hs) Bool.false_ne_true
 | int i=>
   obtain⟨t,rfl⟩:=rx;cases y with
   | non=>cases ry;exact PySem.EqNone.ne_int_none (fin_bl I q (by simp))
   | int j=>obtain⟨t',rfl⟩:=ry;exact ne_int (fin_bl I q (congrArg not dec_int))
   | str j=>obtain⟨t',rfl⟩:=ry;exact PySem.EqMixed.ne_int_str (fin_bl I q (by simp))
   | _=>exact absurd (show false=true from hs) Bool.false_ne_true
 | str i=>
   obtain⟨t,rfl⟩:=rx;cases y with
   | non=>cases ry;exact PySem.EqNone.ne_str_none (fin_bl I q (by simp))
   | bl j=>cases ry;exact PySem.EqMixed.ne_str_bool (fin_bl I q (by simp))
   | int j=>obtain⟨t',rfl⟩:=ry;exact PySem.EqMixed.ne_str_int (fin_bl I q (by simp))
   | str j=>obtain⟨t',rfl⟩:=ry;exact ne_str (fin_bl I q (congrArg not dec_str))
   | _=>exact absurd (show false=true from hs) Bool.false_ne_true
 | byt i=>
   obtain⟨t,rfl⟩:=rx;cases y with
   | byt j=>obtain⟨t',rfl⟩:=ry;exact W.ne_bytes (fin_bl I q (congrArg not dec_byt))
   | _=>exact absurd (show false=true from hs) Bool.false_ne_true
 | _=>cases y <;> exact absurd (show false=true from hs) Bool.false_ne_true
theorem op_lt:OpR X (compareOp .Lt) (rI0 fun i j=>.bl (decide (i < j))):=opB0 fun _ _ _ _ _ _ _ q=>lt_int q
theorem op_le:OpR X (compareOp .LtE) (rI0 fun i j=>.bl (decide (i<=j))):=opB0 fun _ _ _ _ _ _ _ q=>le_int q
theorem op_gt:OpR X (compareOp .Gt) (rI0 fun i j=>.bl (decide (j < i))):=opB0 fun _ _ _ _ _ _ _ q=>gt_int q
theorem op_ge:OpR X (compareOp .GtE) (rI0 fun i j=>.bl (decide (j<=i))):=opB0 fun _ _ _ _ _ _ _ q=>ge_int q
theorem op_isN:OpR X (compareOp .Is) (fun x y H Q=>y=.non/\Q (.bl (decide (x=.non))) H):=by
 intro pins s σ H x y v u Q I rx ry h;obtain⟨rfl,q⟩:=h;cases ry;refine is_none_gen (fin_bl I q ?_);cases x <;> first
  | (cases rx;rfl)
  | (obtain⟨t,rfl⟩:=rx;rfl)
theorem op_notN:OpR X (compareOp .IsNot) (fun x y H Q=>y=.non/\Q (.bl (!decide (x=.non))) H):=by
 intro pins s σ H x y v u Q I rx ry h;obtain⟨rfl,q⟩:=h;cases ry;refine isnot_none_gen (fin_bl I q ?_);cases x <;> first
  | (cases rx;rfl)
  | (obtain⟨t,rfl⟩:=rx;rfl)
theorem nomark(b:Expr){op:CmpOp}(h:op ≠ .In:=by decide)(h2:op ≠ .NotIn:=by decide):behindInMarks op b=false:=by
 have e1:(op == CmpOp.In)=false:=by cases op <;> first | rfl | exact absurd rfl h
 have e2:(op == CmpOp.NotIn)=false:=by cases op <;> first | rfl | exact absurd rfl h2
 cases b <;> simp[behindInMarks,e1,e2]
theorem pe_cmpR{op:CmpOp}{r:R2}(ho:OpR X (compareOp op) r)(ha:PE X a ta)(hb:PE X b tb)(hm:behindInMarks op b=false):PE X (.Compare a [op] [b] pos) (tOp r ta tb):=by
 intro pins s σ H Q I h;exact wpAny_Compare1 (binT ha hb I h fun v u s2 x y H2 I2 rx ry q=>ho pins s2 σ H2 x y v u Q I2 rx ry q) hm
noncomputable def tTest(t:TE):TT:=fun σ H Q=>t σ H fun x H'=>∃ k,x=.bl k/\Q k H'
theorem pt_cmpR{op:CmpOp}{r:R2}(ho:OpR X (compareOp op) r)(ha:PE X a ta)(hb:PE X b tb)(hm:behindInMarks op b=false):PT X (.Compare a [op] [b] pos) (tTest (tOp r ta tb)):=by
 intro pins s σ H Q I h;refine wpAny_isTrue_Compare1 (thn (ha pins s σ H _ I h) fun v s1 ⟨x,H1,I1,r1,q1⟩=>thn (hb pins s1 σ H1 _ I1 q1) fun u s2 ⟨y,H2,I2,r2,q2⟩=>
  thn (ho pins s2 σ H2 x y v u _ I2 r1 r2 q2) fun c s3 ⟨z,H3,I3,r3,k,e,q3⟩=>?_) hm
 subst e;cases r3;exact wpAny_truthy_bool ⟨H3,I3,q3⟩
noncomputable def tChain(r r':R2)(ta tb tc:TE):TE:=fun σ H Q=>ta σ H fun x H1=>tb σ H1 fun y H2=>r x y H2 fun z H3=>∃ k,z=.bl k /\
 (if k=true then tc σ H3 fun w' H4=>r' y w' H4 Q else Q (.bl false) H3)
theorem pe_chain{op op':CmpOp}{r r':R2}(ho:OpR X (compareOp op) r)(ho':OpR X (compareOp op') r')(ha:PE X a ta)(hb:PE X b tb)(hc:PE X c tc)
 (hm:lastMarks [op,op'] [b,c]=false:=by with_unfolding_all rfl):PE X (.Compare a [op,op'] [b,c] pos) (tChain r r' ta tb tc):=by
 intro pins s σ H Q I h;refine Compare_chain (thn (ha pins s σ H _ I h) fun v s1 ⟨x,H1,I1,r1,q1⟩=>chain_link (thn (hb pins s1 σ H1 _ I1 q1) fun u s2 ⟨y,H2,I2,r2,q2⟩=>
  thn (ho pins s2 σ H2 x y v u _ I2 r1 r2 q2) fun d s3 ⟨z,H3,I3,r3,k,e,q3⟩=>?_)) hm
 subst e;cases r3;refine wpAny_truthy_bool ?_;cases k with
 | false=>exact ite_ff ⟨.bl false,H3,I3,rfl,q3⟩
 | true=>exact ite_tt (chain_last (thn (hc pins s3 σ H3 _ I3 q3) fun w' s4 ⟨z',H4,I4,r4,q4⟩=>ho' pins s4 σ H4 y z' u w' Q I4 r2 r4 q4))
theorem pt_chain{op op':CmpOp}{r r':R2}(ho:OpR X (compareOp op) r)(ho':OpR X (compareOp op') r')(ha:PE X a ta)(hb:PE X b tb)(hc:PE X c tc)
 (hm:lastMarks [op,op'] [b,c]=false:=by with_unfolding_all rfl):PT X (.Compare a [op,op'] [b,c] pos) (tTest (tChain r r' ta tb tc)):=by
 intro pins s σ H Q I h;refine isTrue_chain (thn (ha pins s σ H _ I h) fun v s1 ⟨x,H1,I1,r1,q1⟩=>test_link (thn (hb pins s1 σ H1 _ I1 q1) fun u s2 ⟨y,H2,I2,r2,q2⟩=>
  thn (ho pins s2 σ H2 x y v u _ I2 r1 r2 q2) fun d s3 ⟨z,H3,I3,r3,k,e,q3⟩=>?_)) hm
 subst e;cases r3;refine wpAny_truthy_bool ?_;cases k with
 | false=>
   obtain⟨k',e',q'⟩:=q3;cases e';exact ite_ff ⟨H3,I3,q'⟩
 | true=>
   refine ite_tt (test_last (thn (hc pins s3 σ H3 _ I3 q3) fun w' s4 ⟨z',H4,I4,r4,q4⟩=>thn (ho' pins s4 σ H4 y z' u w' _ I4 r2 r4 q4) fun d' s5 zz=>?_));obtain⟨z2,H5,I5,r5,k2,e2,q5⟩:=zz;subst e2;cases r5;exact wpAny_truthy_bool ⟨H5,I5,q5⟩
theorem line63:(sizeLine:Nat) < 2 ^ 63:=by rw[sizeLine_eq];decide
theorem vals1{x:V}{us:List Value}(r:Vals [x] us):∃ u,us=[u]/\RelV x u:=by
 cases r with
 | cons r1 r2=>cases r2;exact⟨_,rfl,r1⟩
theorem vals2{x y:V}{us:List Value}(r:Vals [x,y] us):∃ u w',us=[u,w']/\RelV x u/\RelV y w':=by
 cases r with
 | cons r1 r2=>
   cases r2 with
   | cons r3 r4=>cases r4;exact⟨_,_,rfl,r1,r3⟩
theorem call_max2(hc:X.calm=true):CallR X (.builtin "max") (fun xs H Q=>∃ i j,xs=[.int i,.int j]/\Q (.int (if j > i then j else i)) H):=by
 intro pins s σ H xs us Q I r h;obtain⟨i,j,rfl,q⟩:=h;obtain⟨u,w',rfl,⟨t,rfl⟩,⟨t',rfl⟩⟩:=vals2 r;refine max_two_ints (I.ok.hd hc) fun h' tk k=>⟨_,H,I.kept k,?_,q⟩;by_cases hj:j > i
 · rw[if_pos hj,if_pos hj];exact⟨_,rfl⟩
 rw[if_neg hj,if_neg hj];exact⟨_,rfl⟩
theorem call_min2(hc:X.calm=true):CallR X (.builtin "min") (fun xs H Q=>∃ i j,xs=[.int i,.int j]/\Q (.int (if j < i then j else i)) H):=by
 intro pins s σ H xs us Q I r h;obtain⟨i,j,rfl,q⟩:=h;obtain⟨u,w',rfl,⟨t,rfl⟩,⟨t',rfl⟩⟩:=vals2 r;refine min_two_ints (I.ok.hd hc) fun h' tk k=>⟨_,H,I.kept k,?_,q⟩;by_cases hj:j < i
 · rw[if_pos hj,if_pos hj];exact⟨_,rfl⟩
 rw[if_neg hj,if_neg hj];exact⟨_,rfl⟩
theorem call_int1:CallR X (.type "int") (fun xs H Q=>(∃ i,xs=[.int i]/\Q (.int i) H) ∨ ∃ k,xs=[.bl k]/\Q (.int (if k then 1 else 0)) H):=by
 intro pins s σ H xs us Q I r h;rcases h with ⟨i,rfl,q⟩ | ⟨k,rfl,q⟩
 · obtain⟨u,rfl,t,rfl⟩:=vals1 r
   exact call_int_int ⟨.int i,H,I,⟨_,rfl⟩,q⟩
 obtain⟨u,rfl,r1⟩:=vals1 r;cases r1;exact call_int_bool ⟨.int (if k then 1 else 0),H,I.tok _,⟨_,rfl⟩,q⟩
end
end L2
namespace L2
open PySem PySem.Spec PyProof.Rows
structure ObjM(h:Heap)(x dx C:Addr)(mA:Str->Option Value):Prop where
 obj:h.get? x=some (W.instObj C dx)
 ns:h.Ns1 dx mA
 ne:dx≠x
theorem lookIn_ns{h:Heap}{dx:Addr}{mA:Str->Option Value}(n:h.Ns1 dx mA):∃ od,h.get? dx=some od /\ ∀ name,W.lookIn name od=some (mA name):=by
 obtain⟨o,es,ep,ho,hd,hk,_,hm⟩:=n;refine⟨o,ho,fun name=>?_⟩;have e:=hm name;unfold nsFind findBy at e;rw[← Array.find?_toList]at e;unfold W.lookIn;rw[hd]
 dsimp only
 split
 · rename_i y q
   rw[q]at e;exact congrArg some e
 rename_i q;rw[q]at e;have a:es.toList.any (·.refKey)=false:=by
  rw[List.any_eq_false];intro y hy;obtain⟨z,t,hkey⟩:=hk y (Array.mem_toList_iff.mp hy);simp[DictEntry.refKey,hkey]
 have a':¬ es.toList.any (·.refKey)=true:=by rw[a];exact Bool.false_ne_true
 rw[if_neg a'];exact congrArg some e
theorem ObjM.look{h:Heap}{x dx C:Addr}{mA:Str->Option Value}(I:ObjM h x dx C mA):∃ od,W.InstAt h x (W.instObj C dx) C (some od) /\ ∀ name,W.lookIn name od=some (mA name):=
 let⟨od,ho,hl⟩:=lookIn_ns I.ns
 ⟨od,⟨I.obj,rfl,rfl,ho⟩,hl⟩
section
variable{prog:Program}{w:World}{A:Around}{E:Value->Shared->Prop}{s:Shared}{K:W.Frag}{x dx C f:Addr}{mA:Str->Option Value}{name:Str}{v:Value}
theorem get_map{expr:Bool}{Q:Value->Shared->Prop}(X:K.In s.heap)(I:ObjM s.heap x dx C mA)(hg:W.plainGet K C name=true)(hh:W.hasDictIn K C=true)
 (ha:W.findIn K (.ref C) name=some none) (hv:mA name=some v) (hv':W.handedIn v=true) (h:Q v { s with toks:=s.toks+1 }) :
 wpAny (model prog w) A (getAttr (.ref x) name expr) Q E s:=by
 obtain⟨od,J,hl⟩:=I.look;exact W.get_value X J (W.plainGet_of hg).1 (W.findObj_own hh ha rfl (by rw[hl,hv])) hv' h
theorem get_meth{pl:Sem Bool}{Q:Value×List Value->Shared->Prop}(X:K.In s.heap)(I:ObjM s.heap x dx C mA)(hg:W.plainGet K C name=true)
 (hf:W.findIn K (.ref C) name=some (some (.ref f))) (ht:W.isFn K (.ref f)=true) (hv:mA name=none) (h:Q (.ref f,[.ref x]) s) :
 wpAny (model prog w) A (getMethod (.ref x) name pl) Q E s:=by
 obtain⟨od,J,hl⟩:=I.look;exact W.method_fn X J (W.plainGet_of hg).1 (W.plainGet_of hg).2 hf (beq_iff_eq.mp ht) (by show(W.lookIn name od).map (·.isSome)=some false;rw[hl,hv];rfl) h
theorem set_map{ns:List Str}{Q:Unit->Shared->Prop}(X:K.In s.heap)(I:ObjM s.heap x dx C mA)
 (hs:W.findIn K (.ref C) "__setattr__"=some (some (.builtin "object.__setattr__"))) (hp:W.plainOver K C=true) (ht:W.takerIn K C name=some none) (hh:W.hasDictIn K C=true)
 (hw:PySem.Within mA ns) (hsz:ns.length<=sizeLine)
 (h:∀ h',ObjM h' x dx C (fun y=>if y=name then some v else mA y)->Heap.SameBut dx s.heap h'->Q () { s with heap:=h',toks:=s.toks+2 }) :
 wpAny (model prog w) A (setAttr (.ref x) name v) Q E s:=by
 obtain⟨od,J,hl⟩:=I.look;refine W.set_plain X J hs (W.osa_open (s:={ s with toks:=s.toks+1 }) (r:=none) X J hp ht fun b=>?_);obtain⟨cd,hc,hd'⟩:=W.any_some hh;have hx:s.heap.get? x=some ⟨.ref C,some dx,.plain,#[]⟩:=I.obj;refine wpAny_bind (wpAny_pure (wpAny_bind (wpAny_bind (wpAny_loadPart hx (wpAny_bind (W.Looks.here (s:={ s with toks:=s.toks+1 }) (W.looks_clsIn X hc) ?_))))));rw[hd'];refine wpAny_pure (a:=some dx) (wpAny_bind (wpAny_pure (wpAny_bind ?_)));refine wpAny_nsSet1 (s:={ s with toks:=s.toks+1 }) I.ns fun h' hn2 hs2=>?_;obtain⟨oD,esD,epD,hoD,hdD,hcD⟩:=hn2.count (PySem.Within.cons name v hw);refine wpAny_bind (wpAny_lookBehind hoD (by rw[hdD];exact pastItsLine_dict (Nat.le_trans hcD (by rw[List.length_cons];omega))) ?_)
 exact wpAny_pure (h _ ⟨(hs2.2 _ (Ne.symm I.ne)).trans I.obj,hn2,I.ne⟩ hs2)
theorem make_map{R:Result->Shared->Prop}{vs:List Value}{kw:List (Str×Value)}(X:K.In s.heap)(hm:W.makesIn K C=true)
 (hi:W.findIn K (.ref C) "__init__"=some (some (.ref f))) (hf:W.typeIn K (.ref f)=some (.type "function"))
 (h:codeAny (model prog w) (A.under (.builtin "type.__call__" ⟨.ref C::vs,kw⟩)) (.call (.ref f) ⟨.ref (s.heap.objs.size+1)::vs,kw⟩) (W.InitBack (s.heap.objs.size+1) R)
  { s with heap:=(s.heap.push W.emptyDict).push (W.instObj C s.heap.objs.size) }) :
 codeAny (model prog w) A (.call (.ref C) ⟨vs,kw⟩) R s:=by
 obtain⟨hh,g,d,t,os⟩:=s;exact W.make_core (W.makes_of X hm) (W.looks_findIn X hi) (fun self=>W.bind_fn X self hf) (.inl rfl) h
end
noncomputable def putF(f:Str)(v:V):List (Str×V)->List (Str×V)
 | []=>[(f,v)]
 | (g,x)::r=>if g=f then(g,v)::r else(g,x)::putF f v r
theorem lookup_putF(f g:Str)(v:V):∀ fs:List (Str×V),(putF f v fs).lookup g=if g=f then some v else fs.lookup g
 | []=>by
   show List.lookup g [(f,v)]=_;by_cases h:g=f
   · have hb:(g == f)=true:=beq_iff_eq.mpr h
     simp only[List.lookup,hb,if_pos h]
   have hb:(g == f)=false:=beq_eq_false_iff_ne.mpr h;simp only[List.lookup,hb,if_neg h]
 | (k,x)::r=>by
   have ih:=lookup_putF f g v r;rw[show putF f v ((k,x)::r)=(if k=f then(k,v)::r else(k,x)::putF f v r)from rfl];by_cases hk:k=f
   · rw[if_pos hk]
     by_cases h:g=k
     · have hb:(g == k)=true:=beq_iff_eq.mpr h
       simp only[List.lookup,hb,if_pos (h.trans hk)]
     have hb:(g == k)=false:=beq_eq_false_iff_ne.mpr h;simp only[List.lookup,hb,if_neg (fun e:g=f=>h (e.trans hk.symm))]
   rw[if_neg hk];by_cases h:g=k
   · have hb:(g == k)=true:=beq_iff_eq.mpr h
     simp only[List.lookup,hb,if_neg (fun e:g=f=>hk (h.symm.trans e))]
   have hb:(g == k)=false:=beq_eq_false_iff_ne.mpr h;simp only[List.lookup,hb];exact ih
theorem keys_putF(f:Str)(v:V):∀ fs:List (Str×V),f∈(putF f v fs).map (·.1) /\ ∀ g,g∈fs.map (·.1)->g∈(putF f v fs).map (·.1)
 | []=>⟨by simp[putF],fun g h=>by simp at h⟩
 | (k,x)::r=>by
   obtain⟨i1,i2⟩:=keys_putF f v r;rw[show putF f v ((k,x)::r)=(if k=f then(k,v)::r else(k,x)::putF f v r)from rfl];by_cases hk:k=f
   · rw[if_pos hk]
     subst hk;exact⟨by simp,fun g h=>by simpa using h⟩
   rw[if_neg hk];refine⟨?_,fun g h=>?_⟩
   · rw[List.map_cons]
     exact List.mem_cons_of_mem _ i1
   rw[List.map_cons]at h ⊢;rcases List.mem_cons.mp h with e | e
   · exact List.mem_cons.mpr (.inl e)
   exact List.mem_cons_of_mem _ (i2 g e)
theorem length_putF(f:Str)(v:V):∀ fs:List (Str×V),(putF f v fs).length<=fs.length+1
 | []=>by simp[putF]
 | (k,x)::r=>by
   have ih:=length_putF f v r;rw[show putF f v ((k,x)::r)=(if k=f then(k,v)::r else(k,x)::putF f v r)from rfl];by_cases hk:k=f
   · rw[if_pos hk,List.length_cons,List.length_cons];omega
   rw[if_neg hk,List.length_cons,List.length_cons];omega
theorem RelO.some_of{v:V}{o:Option Value}(r:RelO (some v) o):∃ u,o=some u/\RelV v u:=by
 cases o with
 | none=>exact(show False from r).elim
 | some u=>exact⟨u,rfl,r⟩
theorem RelO.none_of{o:Option Value}(r:RelO none o):o=none:=by
 cases o with
 | none=>rfl
 | some u=>exact(show False from r).elim
theorem handed_of{v:V}{u:Value}(r:RelV v u):W.handedIn u=true:=by
 cases v with
 | non=>cases (show u=Value.none from r);rfl
 | bl b=>cases (show u=Value.bool b from r);rfl
 | int i=>obtain⟨t,e⟩:=(show ∃ t,u=Value.int i t from r);cases e;rfl
 | str x=>obtain⟨t,e⟩:=(show ∃ t,u=Value.str x t from r);cases e;rfl
 | byt b=>obtain⟨t,e⟩:=(show ∃ t,u=Value.bytes b t from r);cases e;rfl
 | flt b=>obtain⟨t,e⟩:=(show ∃ t,u=Value.float b t from r);cases e;rfl
 | ref a=>cases (show u=Value.ref a from r);rfl
 | ty n=>cases (show u=Value.type n from r);rfl
section
variable{P:Program}{w:World}{H H':Hp}{h h':Heap}{a C dx:Addr}{fs fs':List (Str×V)}
theorem ins_get(hok:HOk P w H h)(e:H a=some (.ins C dx fs)):∃ mA,ObjM h a dx C mA/\(∀ f,RelO (fs.lookup f) (mA f))/\PySem.Within mA (fs.map (·.1))/\fs.length<=1000/\H dx=some (.own a):=by
 obtain⟨d,z,ne,ob,mA,n,r,q⟩:=(show ObjOk P w H h a (.ins C dx fs)from hok a _ e);exact⟨mA,⟨ob,n,ne⟩,r,q,z,d⟩
end
structure Cls(K:W.Frag)(C:Addr):Prop where
 pg:W.plainGet K C Str.empty=true
 hd:W.hasDictIn K C=true
 po:W.plainOver K C=true
 sa:W.findIn K (.ref C) "__setattr__"=some (some (.builtin "object.__setattr__"))
theorem Cls.get{K:W.Frag}{C:Addr}(c:Cls K C)(f:Str):W.plainGet K C f=true:=c.pg
noncomputable def NoAttr(K:W.Frag)(C:Addr)(f:Str):Prop:=W.findIn K (.ref C) f=some none
theorem NoAttr.taker{K:W.Frag}{C:Addr}{f:Str}(n:NoAttr K C f):W.takerIn K C f=some none:=by
 unfold W.takerIn;rw[show W.findIn K (.ref C) f=some none from n]
 rfl
structure Meth(K:W.Frag)(C:Addr)(m:Str)(f:Addr):Prop where
 at_:W.findIn K (.ref C) m=some (some (.ref f))
 fn:W.isFn K (.ref f)=true
 kp:W.keepIn K (.ref f)=true
section
variable{X:Cx}{pins:List (Addr×Obj)}{σ:St}{H:Hp}{s:Shared}{a C dx:Addr}{fs:List (Str×V)}{f:Str}{v:V}{A:Around}{E:Value->Shared->Prop}
theorem getattr_ok{b:Bool}{Q:Value->Shared->Prop}(I:Inv X pins σ H s)(e:H a=some (.ins C dx fs))(c:Cls X.K C)(n:NoAttr X.K C f)(l:fs.lookup f=some v)
 (h:∀ u s',Inv X pins σ H s'->RelV v u->Q u s'):wpAny (model X.prog X.w) A (getAttr (.ref a) f b) Q E s:=by
 obtain⟨mA,O,r,_,_,_⟩:=ins_get I.hok e;obtain⟨u,hu,ru⟩:=RelO.some_of (v:=v) (o:=mA f) (by rw[← l];exact r f)
 exact get_map I.kIn O (c.get f) c.hd n hu (handed_of ru) (h u _ (I.tok _) ru)
theorem getmeth_ok{m:Str}{g:Addr}{pl:Sem Bool}{Q:Value×List Value->Shared->Prop}(I:Inv X pins σ H s)(e:H a=some (.ins C dx fs))(c:Cls X.K C)(k:Meth X.K C m g)(l:fs.lookup m=none)
 (h:Q (.ref g,[.ref a]) s):wpAny (model X.prog X.w) A (getMethod (.ref a) m pl) Q E s:=by
 obtain⟨mA,O,r,_,_,_⟩:=ins_get I.hok e;have hn:mA m=none:=RelO.none_of (by rw[← l];exact r m)
 exact get_meth I.kIn O (c.get m) k.at_ k.fn hn h
theorem setattr_ok{y:V}{u:Value}{Q:Unit->Shared->Prop}(I:Inv X pins σ H s)(e:H a=some (.ins C dx fs))(c:Cls X.K C)(n:NoAttr X.K C f)(hl:fs.length < 1000)(ry:RelV y u)
 (h:∀ s',Inv X pins σ (upd H a (.ins C dx (putF f y fs))) s'->Q () s'):wpAny (model X.prog X.w) A (setAttr (.ref a) f u) Q E s:=by
 obtain⟨mA,O,r,wi,_,ho⟩:=ins_get I.hok e;have hz:(fs.map (·.1)).length<=sizeLine:=by rw[List.length_map,sizeLine_eq];omega
 refine set_map I.kIn O c.sa c.po n.taker c.hd wi hz fun h' O' sb=>h _ ?_;have hd:∃ o,h'.get? dx=some o:=let⟨o,_,_,e',_⟩:=O'.ns;⟨o,e'⟩;refine I.write (x:=a) (e:=dx) (by rw[e];exact True.intro) (.inr ho) (fun b q hb z=>(sb.2 b hb).trans z) hd ?_
 refine⟨by rw[upd_ne O.ne];exact ho,?_,O.ne,O'.obj,_,O'.ns,fun g=>?_,fun g hg=>?_⟩
 · have:=length_putF f y fs;omega
 · show RelO ((putF f y fs).lookup g) (if g=f then some u else mA g)
   rw[lookup_putF];by_cases q:g=f
   · rw[if_pos q,if_pos q];exact ry
   rw[if_neg q,if_neg q];exact r g
 by_cases q:g=f
 · rw[q];exact(keys_putF f y fs).1
 refine(keys_putF f y fs).2 g (wi g fun z=>hg ?_);show(if g=f then some u else mA g)=none;rw[if_neg q];exact z
theorem Inv.made(I:Inv X pins σ H s):Inv X pins σ (upd (upd H s.heap.objs.size (.own (s.heap.objs.size+1))) (s.heap.objs.size+1) (.ins C s.heap.objs.size []))
 { s with heap:=(s.heap.push W.emptyDict).push (W.instObj C s.heap.objs.size) }:=by
 have e1:(s.heap.push W.emptyDict).get? s.heap.objs.size=some W.emptyDict:=Heap.get?_push_size s.heap rfl;have e2:((s.heap.push W.emptyDict).push (W.instObj C s.heap.objs.size)).get? (s.heap.objs.size+1)=some (W.instObj C s.heap.objs.size):=by
  have:=Heap.get?_push_size (s.heap.push W.emptyDict) (o:=W.instObj C s.heap.objs.size) rfl
  rwa [Heap.size_push]at this
 have e3:(s.heap.push W.emptyDict).Ns s.heap.objs.size (fun _=>none):=⟨W.emptyDict,#[],_,e1,rfl,(fun e he=>absurd he (by simp)),fun _=>rfl⟩
 have I1:=I.laid (a:=s.heap.objs.size) (o:=.own (s.heap.objs.size+1)) (h':=s.heap.push W.emptyDict) (t':=s.toks) (fun b u q=>Heap.get?_push_of_some _ q) (Nat.le_refl _) ⟨_,e1⟩;refine I1.laid (a:=s.heap.objs.size+1) (o:=.ins C s.heap.objs.size []) (t':=s.toks) (fun b u q=>Heap.get?_push_of_some _ q) (Nat.le_of_eq (Heap.size_push _ _)) ?_;have ne:s.heap.objs.size≠s.heap.objs.size+1:=Nat.ne_of_lt (Nat.lt_succ_self _);refine⟨by rw[upd_ne ne,upd_same],Nat.zero_le _,ne,e2,fun _=>none,(Heap.Ns1.of_empty e3).at fun o q=>Heap.get?_push_of_some _ q,fun _=>True.intro,fun y hy=>absurd rfl hy⟩
theorem attr_of{prog:Program}{w:World}{env:Env}{e:Expr}{f:Str}{pos:Pos}{s:Shared}{Q:Value->Shared->Prop}(hb:attributeBase e f env (eval e env)=eval e env)
 (h:wpAny (model prog w) A (eval e env) (fun o s₁=>wpAny (model prog w) A (getAttr o f true) Q E s₁) E s):wpAny (model prog w) A (eval (.Attribute e f pos) env) Q E s:=
 Attribute_any_ h (by rw[arm_eval_Attribute,hb])
end
noncomputable def tFld(K:W.Frag)(ta:TE)(f:Str):TE:=fun σ H Q=>ta σ H fun x H1=>∃ a C dx fs v,x=.ref a/\H1 a=some (.ins C dx fs)/\Cls K C/\NoAttr K C f/\fs.lookup f=some v/\Q v H1
noncomputable def sFld(K:W.Frag)(ta tv:TE)(f:Str):TS:=fun D σ H=>tv σ H fun y H1=>ta σ H1 fun x H2=>∃ a C dx fs,x=.ref a/\H2 a=some (.ins C dx fs)/\Cls K C/\NoAttr K C f/\fs.length < 1000 /\
 D.nx σ (upd H2 a (.ins C dx (putF f y fs)))
noncomputable def InOp(X:Cx)(op:Operator)(rd:V->V->Hp->VK->Prop):Prop:=
 ∀(pins:List (Addr×Obj)) (s:Shared) (σ:St) (H:Hp) (x y:V) (u v:Value) (Q:VK),Inv X pins σ H s->RelV x u->RelV y v->rd x y H Q->wpAny (model X.prog X.w) X.A (inplaceOp op u v) (EP X pins σ Q) X.xe s
noncomputable def sFldAug(K:W.Frag)(ta tv:TE)(rd:V->V->Hp->VK->Prop)(f:Str):TS:=fun D σ H=>ta σ H fun x H1=>∃ a C dx fs v,x=.ref a/\H1 a=some (.ins C dx fs)/\Cls K C/\NoAttr K C f/\fs.lookup f=some v /\
 tv σ H1 fun y H2=>rd v y H2 fun z H3=>∃ dx' fs',H3 a=some (.ins C dx' fs')/\fs'.length < 1000/\D.nx σ (upd H3 a (.ins C dx' (putF f z fs')))
section
variable{X:Cx}{o e value:Expr}{f:Str}{pos pos' tpos:Pos}{ta tv:TE}
theorem pe_fld(he:PE X e ta)(hb:attributeBase e f X.env (eval e X.env)=eval e X.env):PE X (.Attribute e f pos) (tFld X.K ta f):=by
 intro pins s σ H Q I h;refine attr_of hb (thn (he pins s σ H _ I h) fun u s1 zz=>?_);obtain⟨x,H1,I1,rx,a,C,dx,fs,v,ex,ea,c,n,l,q⟩:=zz;subst ex;obtain rfl:u=Value.ref a:=rx;exact getattr_ok I1 ea c n l fun u' s2 I2 ru=>⟨v,H1,I2,ru,q⟩
theorem ps_fld(ha:PE X o ta)(hv:PE X value tv)(hs:swapsWith value (some (.Attribute o f pos')) pos.line X.env=pure false):PS X (.Assign [.Attribute o f pos'] value pos) (sFld X.K ta tv f):=by
 intro pins s σ H D I h;refine plainObj_wpAny_Assign_Attribute (thn (hv pins s σ H _ I h) fun u s1 ⟨y,H1,I1,ry,q⟩=>thn (ha pins s1 σ H1 _ I1 q) fun ov s2 ⟨x,H2,I2,rx,a,C,dx,fs,ex,ea,c,n,l,q2⟩=>?_) hs;subst ex;obtain rfl:ov=Value.ref a:=rx;exact setattr_ok I2 ea c n l ry fun s3 I3=>⟨σ,_,I3,q2⟩
theorem ps_fldaug{op:Operator}{rd:V->V->Hp->VK->Prop}(ha:PE X o ta)(hv:PE X value tv)(hop:InOp X op rd):PS X (.AugAssign (.Attribute o f tpos) op value pos) (sFldAug X.K ta tv rd f):=by
 intro pins s σ H D I h;refine wpAny_AugAssign_AttributeAny (thn (ha pins s σ H _ I h) fun ov s1 zz=>?_);obtain⟨x,H1,I1,rx,a,C,dx,fs,v,ex,ea,c,n,l,q⟩:=zz;subst ex;obtain rfl:ov=Value.ref a:=rx;refine getattr_ok I1 ea c n l fun u s2 I2 ru=>thn (hv pins s2 σ H1 _ I2 q) fun w3 s3 ⟨y,H2,I3,ry,q3⟩=>thn (hop pins s3 σ H2 v y u w3 _ I3 ru ry q3) fun w4 s4 zz=>?_;obtain⟨z,H3,I4,rz,dx',fs',ea',l',q4⟩:=zz;exact setattr_ok I4 ea' c n l' rz fun s5 I5=>⟨σ,_,I5,q4⟩
noncomputable def rAdd:V->V->Hp->VK->Prop:=fun x y H Q=>∃ i j,x=.int i/\y=.int j/\Q (.int (i+j)) H
noncomputable def rSub:V->V->Hp->VK->Prop:=fun x y H Q=>∃ i j,x=.int i/\y=.int j/\Q (.int (i - j)) H
theorem in_add:InOp X .Add rAdd:=by
 rintro pins s σ H x y u v Q I rx ry ⟨i,j,rfl,rfl,q⟩;obtain⟨t,rfl⟩:=(show ∃ t,u=Value.int i t from rx);obtain⟨t',rfl⟩:=(show ∃ t',v=Value.int j t' from ry);exact PyProof.Rows.iadd_int ⟨.int (i+j),H,I.tok _,⟨_,rfl⟩,q⟩
theorem in_sub:InOp X .Sub rSub:=by
 rintro pins s σ H x y u v Q I rx ry ⟨i,j,rfl,rfl,q⟩;obtain⟨t,rfl⟩:=(show ∃ t,u=Value.int i t from rx);obtain⟨t',rfl⟩:=(show ∃ t',v=Value.int j t' from ry);exact PyProof.Rows.isub_int ⟨.int (i - j),H,I.tok _,⟨_,rfl⟩,q⟩
end
section
variable{X:Cx}{pins:List (Addr×Obj)}{σ:St}{H:Hp}{s:Shared}{A:Around}{E:Value->Shared->Prop}{Q:Value->Shared->Prop}{c:Value}{b:Bool}
inductive TyOf(K:W.Frag)(H:Hp):V->Value->Prop where
 | non:TyOf K H .non (.type "NoneType")
 | bl (x:Bool):TyOf K H (.bl x) (.type "bool")
 | int (i:Int):TyOf K H (.int i) (.type "int")
 | str (x:Str):TyOf K H (.str x) (.type "str")
 | flt (x:UInt64):TyOf K H (.flt x) (.type "float")
 | lst {a:Addr}{xs:List V} (e:H a=some (.lst xs)):TyOf K H (.ref a) (.type "list")
 | frz {a:Addr}{o:Obj}{xs:List V} (e:H a=some (.frz o (.lst xs))):TyOf K H (.ref a) (.type "list")
 | tup {a:Addr}{xs:List V} (e:H a=some (.tup xs)):TyOf K H (.ref a) (.type "tuple")
 | dK {a:Addr}{kvs:List (Key×V)} (e:H a=some (.dK kvs)):TyOf K H (.ref a) (.type "dict")
 | dT {a:Addr}{kvs:List (List Key×V)} (e:H a=some (.dT kvs)):TyOf K H (.ref a) (.type "dict")
 | ins {a C dx:Addr}{fs:List (Str×V)} (e:H a=some (.ins C dx fs)) (cl:Cls K C) (ha:W.findIn K (.ref C) "__class__"=some (some (.builtin "object.__class__")))
  (hn:W.specialIn K (.builtin "object.__class__") "__get__"=some (some (.builtin "getset_descriptor.__get__"))) (htk:W.takesIn K (.builtin "object.__class__")=some true)
  (hm:W.mroIn K C (.type "object")=some true):TyOf K H (.ref a) (.ref C)
theorem isinst_ok{x:V}{u t:Value}(I:Inv X pins σ H s)(rx:RelV x u)(ty:TyOf X.K H x t)(e:W.kitOne X.K t c=some b)(h:∀ tk,Q (.bool b) { s with toks:=tk }) :
 wpAny (model X.prog X.w) A (call (.builtin "isinstance") [u,c]) Q E s:=by
 cases ty with
 | non=>cases (show u=Value.none from rx);exact W.kia_one W.kitx_none I.kIn True.intro e (fun z=>nomatch z) h
 | bl y=>cases (show u=Value.bool y from rx);exact W.kia_one W.kitx_bool I.kIn True.intro e (fun z=>nomatch z) h
 | int i=>obtain⟨t,q⟩:=(show ∃ t,u=Value.int i t from rx);cases q;exact W.kia_one W.kitx_int I.kIn True.intro e (fun z=>nomatch z) h
 | str y=>obtain⟨t,q⟩:=(show ∃ t,u=Value.str y t from rx);cases q;exact W.kia_one W.kitx_str I.kIn True.intro e (fun z=>nomatch z) h
 | flt y=>obtain⟨t,q⟩:=(show ∃ t,u=Value.float y t from rx);cases q;exact W.kia_one W.kitx_float I.kIn True.intro e (fun z=>nomatch z) h
 | @lst a xs ea=>
   cases (show u=Value.ref a from rx);obtain⟨_,_,n,_,h1⟩:=(show ObjOk X.prog X.w H s.heap a (.lst xs)from I.hok a _ ea);exact W.kia_one W.kitx_list I.kIn ⟨_,h1,rfl⟩ e (fun z=>nomatch z) h
 | @frz a ob xs ea=>
   cases (show u=Value.ref a from rx);obtain⟨_,_,_,n,_,h1⟩:=(show ObjOk X.prog X.w H s.heap a (.frz ob (.lst xs))from I.hok a _ ea);exact W.kia_one W.kitx_list I.kIn ⟨_,h1,rfl⟩ e (fun z=>nomatch z) h
 | @tup a xs ea=>
   cases (show u=Value.ref a from rx);obtain⟨_,_,_,p⟩:=(show ObjOk X.prog X.w H s.heap a (.tup xs)from I.hok a _ ea);obtain⟨o,h1,h2,_⟩:=p;exact W.kia_one W.kitx_tuple I.kIn ⟨o,h1,h2⟩ e (fun z=>nomatch z) h
 | @dK a kvs ea=>
   cases (show u=Value.ref a from rx);obtain⟨_,_,vs,_,p⟩:=(show ObjOk X.prog X.w H s.heap a (.dK kvs)from I.hok a _ ea);obtain⟨o,es,ep,h1,h2,_⟩:=p;exact W.kia_one W.kitx_dict I.kIn ⟨o,h1,h2.1⟩ e (fun z=>nomatch z) h
 | @dT a kvs ea=>
   cases (show u=Value.ref a from rx);obtain⟨_,_,xs,_,o,es,ep,h1,h2,_⟩:=(show ObjOk X.prog X.w H s.heap a (.dT kvs)from I.hok a _ ea);exact W.kia_one W.kitx_dict I.kIn ⟨o,h1,h2.1⟩ e (fun z=>nomatch z) h
 | @ins a C dx fs ea cl ha hn htk hm=>
   cases (show u=Value.ref a from rx);obtain⟨mA,O,_⟩:=ins_get I.hok ea;obtain⟨od,J,_⟩:=O.look;exact W.kia_one (W.kitx_own (cl.get _) cl.hd ha hn htk hm) I.kIn J e (fun z=>nomatch z) h
end
end L2
namespace L2
open PySem PySem.Spec PyProof.Rows
structure Room(k:Nat)(A:Around):Prop where
 hd:A.handled=none
 dp:A.depth+3*k+5 < recursionLimit
 un:A.units+16*k+200 < cLine
theorem Room.mono{j k:Nat}{A:Around}(r:Room k A)(h:j<=k):Room j A:=⟨r.hd,by have:=r.dp;omega,by have:=r.un;omega⟩
theorem Room.up{j k:Nat}{A:Around}(r:Room k A)(h:j<=k:=by first | decide | omega):Room j A:=r.mono h
theorem Room.deeper{k:Nat}{A:Around}(r:Room (k+1) A)(env:Env):Room k (A.deeper env):=
 ⟨r.hd,by have:=r.dp;show A.depth+1+3*k+5 < _;omega,by have:=r.un;show A.units+3+16*k+200 < _;omega⟩
theorem make_depth{A:Around}{C:Addr}{us:List Value}{kw:List (Str×Value)}:(A.under (.builtin "type.__call__" ⟨.ref C::us,kw⟩)).depth=A.depth+1:=by
 first | rfl | simp[Around.under,Code.weight,Code.isCreation,Code.isGuard,Code.isCaller,Code.frames,Code.isFrame,guardIds]
theorem make_units{A:Around}{C:Addr}{us:List Value}{kw:List (Str×Value)}:(A.under (.builtin "type.__call__" ⟨.ref C::us,kw⟩)).units=A.units+1:=by
 first | rfl | simp[Around.under,Code.cUnits,Code.frames,Code.isFrame]
theorem Room.make{k:Nat}{A:Around}(r:Room (k+1) A)(C:Addr)(us:List Value)(kw:List (Str×Value)):Room k (A.under (.builtin "type.__call__" ⟨.ref C::us,kw⟩)):=
 ⟨r.hd,by have:=r.dp;rw[make_depth];omega,by have:=r.un;rw[make_units];omega⟩
theorem Room.depth{k:Nat}{A:Around}(r:Room k A):A.depth < recursionLimit:=by have:=r.dp;omega
theorem Room.units{k:Nat}{A:Around}(r:Room k A):A.units+64 < cLine:=by have:=r.un;omega
noncomputable def tNil:TA:=fun _ H Q=>Q [] H
noncomputable def tCons(ta:TE)(tr:TA):TA:=fun σ H Q=>ta σ H fun x H1=>tr σ H1 fun xs H2=>Q (x::xs) H2
section
variable{X:Cx}{e:Expr}{es:List Expr}{te:TE}{t:TA}{pos:Pos}
theorem pa_nil:PA X [] tNil:=fun _ _ _ _ H Q I h=>Calls.spliced_nil ⟨[],H,I,.nil,h⟩
theorem pa_cons(ha:PE X e te)(hr:PA X es t)(hs:starEach (e::es) X.env=(false,eval e X.env)::starEach es X.env:=by rfl):PA X (e::es) (tCons te t):=by
 intro pos pins s σ H Q I h;rw[hs];show wpAny _ _ (spliced ((false,eval e X.env)::backTo pos (starEach es X.env))) _ _ s;refine Calls.spliced_cons (thn (ha pins s σ H _ I h) fun u s1 zz=>?_);obtain⟨x,H1,I1,r1,q1⟩:=zz;exact thn (hr pos pins s1 σ H1 _ I1 q1) fun us s2 ⟨xs,H2,I2,r2,q2⟩=>⟨x::xs,H2,I2,.cons r1 r2,q2⟩
noncomputable def tTup(t:TA):TE:=fun σ H Q=>t σ H fun xs H1=>xs.length<=sizeLine /\ ∀ p,H1 p=none->Q (.ref p) (upd H1 p (.tup xs))
noncomputable def tLst(t:TA):TE:=fun σ H Q=>t σ H fun xs H1=>xs.length<=sizeLine /\ ∀ p,H1 p=none->Q (.ref p) (upd H1 p (.lst xs))
theorem pe_tup{x1}(h:PA X es t):PE X (.Tuple es x1 pos) (tTup t):=by
 intro pins s σ H Q I hq;refine wpAny_Tuple_spliced (thn (h pos pins s σ H _ I hq) fun us s1 ⟨xs,H1,I1,r,z,q⟩=>⟨by rw[← r.length];exact z,?_⟩)
 have hf:H1 s1.heap.objs.size=none:=I1.hok.fresh (Nat.le_refl _);refine⟨.ref s1.heap.objs.size,upd H1 s1.heap.objs.size (.tup xs),I1.laid (t':=s1.toks) (fun b u e=>Heap.get?_push_of_some _ e) (Nat.le_refl _) ?_,rfl,q _ hf⟩;exact⟨z,us,r,⟨_,Heap.get?_push_size _ rfl,rfl,_,rfl⟩⟩
theorem pe_lst(h:PA X es t):PE X (.List es pos) (tLst t):=by
 intro pins s σ H Q I hq;refine wpAny_List_spliced (thn (h pos pins s σ H _ I hq) fun us s1 ⟨xs,H1,I1,r,z,q⟩=>⟨by rw[← r.length];exact z,?_⟩)
 have hf:H1 s1.heap.objs.size=none:=I1.hok.fresh (Nat.le_refl _);refine⟨.ref s1.heap.objs.size,upd H1 s1.heap.objs.size (.lst xs),I1.laid (t':=s1.toks) (fun b u e=>Heap.get?_push_of_some _ e) (Nat.le_refl _) ?_,rfl,q _ hf⟩;exact⟨z,us,0,r,Heap.get?_push_size _ rfl⟩
end
noncomputable abbrev Sp:=List V->Hp->VK->XK->Prop
noncomputable abbrev CXT:=List Env->Hp->Shared->XK->Value->Shared->Prop
structure Env0(P:Program)(w:World)(K:W.Frag)(mg:Str->Option Value)(base:Heap)(A:Around)(outer:List Env)(s:Shared)(H:Hp):Prop where
 frames:A.frames=some outer
 mod:Mod K mg base
 bs:∀ b o,base.get? b=some o->s.heap.get? b=some o/\H b=none
 bsz:base.objs.size<=s.heap.objs.size
 funs:s.heap.FunFrames base outer
 frf:∀ b∈frs outer,H b=none
 hok:HOk P w H s.heap
 bare:AllBare s.gens
noncomputable def CE(outer:List Env)(P:Program)(w:World)(H:Hp)(s:Shared)(Q:VK)(u:Value)(s':Shared):Prop:=
 ∃ v H',s'.os=s.os/\AllBare s'.gens/\Un (frs outer) [] H H' s.heap s'.heap/\HOk P w H' s'.heap/\RelV v u/\Q v H'
noncomputable def CR(CX:CXT)(outer:List Env)(P:Program)(w:World)(H:Hp)(s:Shared)(Q:VK)(E:XK)(r:Result)(s':Shared):Prop:=
 match r with
 | .ok (.ret u)=>CE outer P w H s Q u s'
 | .ok _=>False
 | .error e=>CX outer H s E e s'
structure FnOk(P:Program)(w:World)(K:W.Frag)(mg:Str->Option Value)(base:Heap)(CX:CXT)(k:Nat)(f:Addr)(fd:FuncData)(ps:List Str)(sp:Sp):Prop where
 len:∀ vs H Q E,sp vs H Q E->vs.length=ps.length
 run:∀(A:Around) (outer:List Env) (s:Shared) (H:Hp) (args:Args) (us:List Value) (vs:List V) (Q:VK) (E:XK),Room k A->Env0 P w K mg base A outer s H->BindsTo s fd args (ps.zip us)->Vals vs us->sp vs H Q E ->
  codeAny (model P w) A (.call (.ref f) args) (CR CX outer P w H s Q E) s
theorem FnOk.imp{P:Program}{w:World}{K:W.Frag}{mg:Str->Option Value}{base:Heap}{CX:CXT}{k:Nat}{f:Addr}{fd:FuncData}{ps:List Str}{sp sp':Sp}(F:FnOk P w K mg base CX k f fd ps sp)
 (h:∀ vs H Q E,sp' vs H Q E->sp vs H Q E):FnOk P w K mg base CX k f fd ps sp':=
 ⟨fun vs H Q E q=>F.len vs H Q E (h _ _ _ _ q),fun A outer s H args us vs Q E hr he hb hv hs=>F.run A outer s H args us vs Q E hr he hb hv (h _ _ _ _ hs)⟩
theorem Env0.make{P:Program}{w:World}{K:W.Frag}{mg:Str->Option Value}{base:Heap}{A:Around}{outer:List Env}{s:Shared}{H:Hp}(e:Env0 P w K mg base A outer s H)(C:Addr)(us:List Value)(kw:List (Str×Value)) :
 Env0 P w K mg base (A.under (.builtin "type.__call__" ⟨.ref C::us,kw⟩)) outer s H:=⟨by first | exact e.frames | (simpa [Around.under,Code.envs,Code.isFrame,pushEnvs] using e.frames),e.mod,e.bs,e.bsz,e.funs,e.frf,e.hok,e.bare⟩
section
variable{X:Cx}{pins:List (Addr×Obj)}{σ:St}{H:Hp}{s s':Shared}
theorem Inv.env0(I:Inv X pins σ H s):Env0 X.prog X.w X.K X.mg X.base X.A X.stack s H:=
 ⟨I.ok.frames,I.ok.mod,I.bs,Nat.le_trans I.ok.bsz I.sz,I.stack,I.stkFree,I.hok,I.bare⟩
theorem Inv.after{Q:VK}{u:Value}(I:Inv X pins σ H s)(h:CE X.stack X.prog X.w H s Q u s'):EP X pins σ Q u s':=by
 obtain⟨v,H',os,bare,un,hok,r,q⟩:=h;obtain⟨hh,g,d,t,os'⟩:=s';obtain rfl:os'=s.os:=os;exact⟨v,H',I.call (h':=hh) (g':=g) (d':=d) (t':=t) (ch:=[]) un hok bare (fun b z=>absurd z (by simp)),r,q⟩
end
noncomputable def tCall(sp:Sp)(dvs:List V)(E:XK)(t:TA):TE:=fun σ H Q=>t σ H fun vs H1=>sp (vs++dvs) H1 Q E
noncomputable def tMeth(C:Addr)(m:Str)(sp:Sp)(dvs:List V)(E:XK)(ta:TE)(t:TA):TE:=fun σ H Q=>ta σ H fun x H1=>∃ a dx fs,x=.ref a/\H1 a=some (.ins C dx fs)/\fs.lookup m=none /\
 t σ H1 fun vs H2=>sp (x::(vs++dvs)) H2 Q E
noncomputable def tMake(C:Addr)(sp:Sp)(dvs:List V)(E:XK)(t:TA):TE:=fun σ H Q=>t σ H fun vs H1=>∀ x dx,H1 x=none->H1 dx=none->dx≠x ->
 sp (.ref x::(vs++dvs)) (upd (upd H1 dx (.own x)) x (.ins C dx [])) (fun v H2=>v=.non/\Q (.ref x) H2) E
noncomputable def Binds(K:W.Frag)(fd:FuncData)(ps:List Str)(ds:List Value):Prop:=
 ∀(s:Shared) (us:List Value),K.In s.heap->(us++ds).length=ps.length->BindsTo s fd ⟨us,[]⟩ (ps.zip (us++ds))
theorem Binds.all{K:W.Frag}{fd:FuncData}{ps:List Str}(h:∀ us:List Value,us.length=ps.length->bindArgs fd ⟨us,[]⟩=pure (ps.zip us)):Binds K fd ps []:=fun s us _ hl=>by
 rw[List.append_nil]at hl ⊢;exact .of_eq (h us hl)
noncomputable def Passes(CX:CXT)(X:Cx)(E:XK):Prop:=∀(pins:List (Addr×Obj)) (σ:St) (H:Hp) (s:Shared) (e:Value) (s':Shared),Inv X pins σ H s->CX X.stack H s E e s'->X.xe e s'
section
variable{X:Cx}{CX:CXT}{k:Nat}{f C:Addr}{fd:FuncData}{ps:List Str}{sp:Sp}{dvs:List V}{ds:List Value}{E:XK}{x m:Str}{p pos apos:Pos}{e o:Expr}{es:List Expr}{ta:TE}{t:TA}
theorem run_fn{pins:List (Addr×Obj)}{σ:St}{H:Hp}{s:Shared}{Q:VK}{us:List Value}{vs:List V}(F:FnOk X.prog X.w X.K X.mg X.base CX k f fd ps sp)(hr:Room k X.A)(hb:Binds X.K fd ps ds)(hd:Vals dvs ds)(hx:Passes CX X E)
 (I:Inv X pins σ H s) (r:Vals vs us) (h:sp (vs++dvs) H Q E):wpAny (model X.prog X.w) X.A (call (.ref f) us) (EP X pins σ Q) X.xe s:=by
 have r2:Vals (vs++dvs) (us++ds):=r.append hd;have hl:(us++ds).length=ps.length:=by rw[← r2.length];exact F.len _ _ _ _ h
 refine wpAny_call (codeAny_mono (F.run X.A X.stack s H ⟨us,[]⟩ (us++ds) (vs++dvs) Q E hr I.env0 (hb s us I.kIn hl) r2 h) fun r s' hq=>?_);cases r with
 | error e=>exact hx pins σ H s e s' I hq
 | ok fl=>
   cases fl with
   | ret u=>exact I.after hq
   | next=>exact False.elim hq
   | brk=>exact False.elim hq
   | cont=>exact False.elim hq
theorem pe_call(F:FnOk X.prog X.w X.K X.mg X.base CX k f fd ps sp)(hr:Room k X.A)(hg:Gl X x)(hm:X.mg x=some (.ref f))(hk:W.keepIn X.K (.ref f)=true)(hb:Binds X.K fd ps ds)(hd:Vals dvs ds)(hx:Passes CX X E)
 (ha:PA X (e::es) t) (hdb:(x == ("__debug__":Str))=false:=by decide) (he:starEach (e::es) X.env=(false,eval e X.env)::starEach es X.env:=by rfl) (hpl:(backTo pos (starEach es X.env)).any (·.1)=false:=by rfl) :
 PE X (.Call (.Name x p) (e::es) [] pos) (tCall sp dvs E t):=by
 intro pins s σ H Q I h;refine wpAny_Call_Name_kw (ld_glob I hg hm ?_ hdb);refine W.callWith_K (h₀:=X.base) I.ok.mod.kin hk (thn (ha pos pins s σ H _ I h) fun us s1 ⟨vs,H1,I1,r,q⟩=>⟨I1.kIn,?_⟩) he hpl;exact run_fn F hr hb hd hx I1 r q
theorem pe_meth{pl:Sem Bool}(he:PE X o ta)(c:Cls X.K C)(hm:Meth X.K C m f)(F:FnOk X.prog X.w X.K X.mg X.base CX k f fd ps sp)(hr:Room k X.A)(hb:Binds X.K fd ps ds)(hd:Vals dvs ds)(hx:Passes CX X E)(ha:PA X (e::es) t)
 (hst:starEach (e::es) X.env=(false,eval e X.env)::starEach es X.env:=by rfl) (hpl:(backTo pos (starEach es X.env)).any (·.1)=false:=by rfl)
 (ht:eval (.Call (.Attribute o m apos) (e::es) [] pos) X.env=(do
  let ov ← eval o X.env
  standAt apos.atName
  let(f,first) ← holding [ov] (getMethod ov m pl)
  callWith pos f first (backTo pos (starEach (e::es) X.env)) (backToKw pos (keywordEach [] X.env))):=by rfl) :
 PE X (.Call (.Attribute o m apos) (e::es) [] pos) (tMeth C m sp dvs E ta t):=by
 intro pins s σ H Q I h;refine W.methodCall_KW (pl:=pl) (thn (he pins s σ H _ I h) fun u s1 ⟨x,H1,I1,rx,a,dx,fs,ex,ea,l,q⟩=>?_) ht;subst ex;obtain rfl:u=Value.ref a:=rx;refine getmeth_ok I1 ea c hm l ?_;refine W.callWith_K (first:=[.ref a]) (h₀:=X.base) I.ok.mod.kin hm.kp (thn (ha pos pins s1 σ H1 _ I1 q) fun us s2 ⟨vs,H2,I2,r,q2⟩=>⟨I2.kIn,?_⟩) hst hpl;exact run_fn (us:=.ref a::us) (vs:=.ref a::vs) F hr hb hd hx I2 (.cons rfl r) q2
theorem pe_meth0{pl:Sem Bool}(he:PE X o ta)(c:Cls X.K C)(hm:Meth X.K C m f)(F:FnOk X.prog X.w X.K X.mg X.base CX k f fd ps sp)(hr:Room k X.A)(hb:Binds X.K fd ps ds)(hd:Vals dvs ds)(hx:Passes CX X E)
 (ht:eval (.Call (.Attribute o m apos) [] [] pos) X.env=(do
  let ov ← eval o X.env
  standAt apos.atName
  let(f,first) ← holding [ov] (getMethod ov m pl)
  callWith pos f first (backTo pos (starEach [] X.env)) (backToKw pos (keywordEach [] X.env))):=by rfl) :
 PE X (.Call (.Attribute o m apos) [] [] pos) (tMeth C m sp dvs E ta tNil):=by
 intro pins s σ H Q I h;refine W.methodCall_KW (pl:=pl) (thn (he pins s σ H _ I h) fun u s1 ⟨x,H1,I1,rx,a,dx,fs,ex,ea,l,q⟩=>?_) ht;subst ex;obtain rfl:u=Value.ref a:=rx;refine getmeth_ok I1 ea c hm l ?_;exact W.callWith_K0 (first:=[.ref a]) I1.kIn hm.kp (run_fn (us:=[.ref a]) (vs:=[.ref a]) F hr hb hd hx I1 (.cons rfl .nil) q)
structure Mk(K:W.Frag)(C f:Addr):Prop where
 makes:W.makesIn K C=true
 init:W.findIn K (.ref C) "__init__"=some (some (.ref f))
 fn:W.isFn K (.ref f)=true
 kp:W.keepIn K (.ref C)=true
theorem run_make{pins:List (Addr×Obj)}{σ:St}{H:Hp}{s:Shared}{Q:VK}{us:List Value}{vs:List V}(M:Mk X.K C f)(F:FnOk X.prog X.w X.K X.mg X.base CX k f fd ps sp)(hr:Room (k+1) X.A)(hb:Binds X.K fd ps ds)(hd:Vals dvs ds)
 (hx:Passes CX X E) (I:Inv X pins σ H s) (r:Vals vs us)
 (h:∀ x dx,H x=none->H dx=none->dx≠x->sp (.ref x::(vs++dvs)) (upd (upd H dx (.own x)) x (.ins C dx [])) (fun v H2=>v=.non/\Q (.ref x) H2) E) :
 wpAny (model X.prog X.w) X.A (call (.ref C) us) (EP X pins σ Q) X.xe s:=by
 have hq:=h (s.heap.objs.size+1) s.heap.objs.size (I.hok.fresh (Nat.le_succ _)) (I.hok.fresh (Nat.le_refl _)) (Nat.ne_of_lt (Nat.lt_succ_self _));have I2:=Inv.made (C:=C) I;have r2:Vals (V.ref (s.heap.objs.size+1)::(vs++dvs)) (Value.ref (s.heap.objs.size+1)::(us++ds)):=.cons rfl (r.append hd);have hl:(Value.ref (s.heap.objs.size+1)::us++ds).length=ps.length:=by
  have e:=r2.length;rw[F.len _ _ _ _ hq]at e;exact e.symm
 refine wpAny_call (make_map (f:=f) I.kIn M.makes M.init (beq_iff_eq.mp M.fn) (codeAny_mono (F.run _ X.stack _ _ ⟨Value.ref (s.heap.objs.size+1)::us,[]⟩ (Value.ref (s.heap.objs.size+1)::(us++ds)) _ _ E (hr.make C us [])
  (I2.env0.make C us []) (hb _ (Value.ref (s.heap.objs.size+1)::us) I2.kIn hl) r2 hq) fun r s' hq'=>?_))
 cases r with
 | error e=>exact hx pins σ _ _ e s' I2 hq'
 | ok fl=>
   cases fl with
   | ret u=>
     obtain⟨v,H',I3,rv,ev,q3⟩:=I2.after hq';subst ev;exact⟨rv,⟨V.ref (s.heap.objs.size+1),H',I3,rfl,q3⟩⟩
   | next=>exact False.elim hq'
   | brk=>exact False.elim hq'
   | cont=>exact False.elim hq'
theorem pe_make(M:Mk X.K C f)(F:FnOk X.prog X.w X.K X.mg X.base CX k f fd ps sp)(hr:Room (k+1) X.A)(hg:Gl X x)(hm:X.mg x=some (.ref C))(hb:Binds X.K fd ps ds)(hd:Vals dvs ds)(hx:Passes CX X E)
 (ha:PA X (e::es) t) (hdb:(x == ("__debug__":Str))=false:=by decide) (he:starEach (e::es) X.env=(false,eval e X.env)::starEach es X.env:=by rfl) (hpl:(backTo pos (starEach es X.env)).any (·.1)=false:=by rfl) :
 PE X (.Call (.Name x p) (e::es) [] pos) (tMake C sp dvs E t):=by
 intro pins s σ H Q I h;refine wpAny_Call_Name_kw (ld_glob I hg hm ?_ hdb);refine W.callWith_K (h₀:=X.base) I.ok.mod.kin M.kp (thn (ha pos pins s σ H _ I h) fun us s1 ⟨vs,H1,I1,r,q⟩=>⟨I1.kIn,?_⟩) he hpl;exact run_make M F hr hb hd hx I1 r q
end
section
variable{X:Cx}{CX:CXT}{k:Nat}{f C:Addr}{fd:FuncData}{ps ks:List Str}{sp:Sp}{E:XK}{x m:Str}{p pos apos kpos:Pos}{e o:Expr}{es:List Expr}{kws:List Keyword}{te ta:TE}{t tk:TA}{nm:Option Str}
variable{g:List Value->List Value->List Value}{gV:List V->List V->List V}
end
structure FnScope(N P:List Str)(sc:Scope):Prop where
 kind:sc.kind=.function
 co:sc.isCoroutine=false
 gen:sc.isGenerator=false
 nd:N.Nodup
 pre:N.take P.length=P
 par:∀ x∈P,sc.names.lookup x=some .local∨sc.names.lookup x=some .cell
 nofree:∀ y∈sc.names,y.2 ≠ .free
theorem bindL_out{kindOf:Str->Option NameKind}{x:Str}:∀{binds:List (Str×Value)}{m:Str->Option Value},(∀ v,(x,v)∉binds)->bindL kindOf binds m x=m x
 | [],_,_=>rfl
 | (n,v)::r,m,h=>by
   unfold bindL;rw[bindL_out fun w hw=>h w (List.mem_cons_of_mem _ hw)];split
   · have:x≠n:=by rintro rfl;exact h v List.mem_cons_self
     simp[this]
   rfl
theorem bindC_out{kindOf:Str->Option NameKind}{x:Str}:∀{binds:List (Str×Value)}{m:Str->Option Value},(∀ v,(x,v)∉binds)->bindC kindOf binds m x=m x
 | [],_,_=>rfl
 | (n,v)::r,m,h=>by
   unfold bindC;rw[bindC_out fun w hw=>h w (List.mem_cons_of_mem _ hw)];split
   · rfl
   have:x≠n:=by rintro rfl;exact h v List.mem_cons_self
   simp[this]
theorem bindL_get{kindOf:Str->Option NameKind}{x:Str}{v:Value}:∀{P:List Str}{vs:List Value}{i:Nat}{m:Str->Option Value},P.Nodup->P[i]?=some x->vs[i]?=some v->kindOf x=some .local ->
 bindL kindOf (P.zip vs) m x=some v
 | [],_,_,_,_,h,_,_=>by simp at h
 | _::_,[],_,_,_,_,h,_=>by simp at h
 | p::P,w::vs,0,m,nd,h1,h2,hk=>by
   simp at h1 h2;subst h1;subst h2;show bindL kindOf ((p,w)::P.zip vs) m p=_;unfold bindL;rw[bindL_out fun v hv=>(List.nodup_cons.mp nd).1 (List.of_mem_zip hv).1,if_pos hk];simp
 | p::P,w::vs,i+1,m,nd,h1,h2,hk=>by
   show bindL kindOf ((p,w)::P.zip vs) m x=_;unfold bindL;exact bindL_get (i:=i) (List.nodup_cons.mp nd).2 (by simpa using h1) (by simpa using h2) hk
theorem bindC_get{kindOf:Str->Option NameKind}{x:Str}{v:Value}:∀{P:List Str}{vs:List Value}{i:Nat}{m:Str->Option Value},P.Nodup->P[i]?=some x->vs[i]?=some v->kindOf x≠some .local ->
 bindC kindOf (P.zip vs) m x=some v
 | [],_,_,_,_,h,_,_=>by simp at h
 | _::_,[],_,_,_,_,h,_=>by simp at h
 | p::P,w::vs,0,m,nd,h1,h2,hk=>by
   simp at h1 h2;subst h1;subst h2;show bindC kindOf ((p,w)::P.zip vs) m p=_;unfold bindC;rw[bindC_out fun v hv=>(List.nodup_cons.mp nd).1 (List.of_mem_zip hv).1,if_neg hk];simp
 | p::P,w::vs,i+1,m,nd,h1,h2,hk=>by
   show bindC kindOf ((p,w)::P.zip vs) m x=_;unfold bindC;exact bindC_get (i:=i) (List.nodup_cons.mp nd).2 (by simpa using h1) (by simpa using h2) hk
noncomputable def start(N:List Str)(vs:List V):St:=vs.map some++List.replicate (N.length - vs.length) none
noncomputable def cxOf(CX:CXT)(P:Program)(w:World)(K:W.Frag)(mg:Str->Option Value)(base:Heap)(N:List Str)(qual:Str)(scope:Scope)(f:Addr)(cd:Value)(A:Around)(outer:List Env)(s:Shared)(H:Hp)(E:XK):Cx where
 prog:=P
 w:=w
 K:=K
 mg:=mg
 base:=base
 A:=A.deeper (envOfC qual scope s.heap.objs.size f cd)
 N:=N
 s₀:=s
 H₀:=H
 env:=envOfC qual scope s.heap.objs.size f cd
 outer:=outer
 stack:=envOfC qual scope s.heap.objs.size f cd::outer
 ex:=[]
 calm:=true
 fn:=fun _=>true
 pn:=[]
 xe:=fun e s'=>wpAny (model P w) (A.deeper (envOfC qual scope s.heap.objs.size f cd)) (leaving (envOfC qual scope s.heap.objs.size f cd) e) (fun _ s''=>CX outer H s E e s'') (fun e' s''=>CX outer H s E e' s'') s'
theorem cell_has{sc:Scope}{n:Nat}{x:Str}(h:sc.names.lookup x=some .cell):∃ c,(cellsFrom n sc.names []).lookup x=some c:=by
 have q:=W.cellsFrom_some sc.names n [] (.inl h);exact Option.isSome_iff_exists.mp q
theorem inv_start{CX:CXT}{P:Program}{w:World}{K:W.Frag}{mg:Str->Option Value}{base:Heap}{N ps:List Str}{qual:Str}{scope:Scope}{f:Addr}{cd:Value}{A:Around}{outer:List Env}{s s1:Shared}{H:Hp}{E:XK}{us:List Value}{vs:List V}
 (S:FnScope N ps scope) (hd:A.handled=none) (e0:Env0 P w K mg base A outer s H) (hl:vs.length=ps.length) (r:Vals vs us)
 (x:InCallC s s.heap.objs.size (bindL (envOfC qual scope s.heap.objs.size f cd).kindOf (ps.zip us) fun _=>none) (cellsFrom (s.heap.objs.size+1) scope.names []) (bindC (envOfC qual scope s.heap.objs.size f cd).kindOf (ps.zip us) fun _=>none) s1) :
 Inv (cxOf CX P w K mg base N qual scope f cd A outer s H E) [] (start N vs) H s1:=by
 have hpl:ps.length<=N.length:=by have:=congrArg List.length S.pre;rw[List.length_take]at this;omega
 obtain⟨h1,tk,rfl,hk⟩:=x.done;have noA:∀ b:Addr,b∉(cxOf CX P w K mg base N qual scope f cd A outer s H E).ex:=fun b z=>absurd (show b∈([]:List Addr)from z) (by simp)
 refine⟨⟨e0.mod,S.kind,rfl,rfl,Nat.le_refl _,fun y z c h1 h2=>?_,fun y hy=>?_,fun y c _ h=>?_,fun _=>hd,Around.frames_deeper e0.frames,.inr ⟨rfl,rfl⟩,fun b z=>absurd z (noA b),e0.bs,e0.bsz,fun b _ _=>noA b,fun b z=>absurd z (noA b),e0.funs,e0.frf⟩,
  rfl,e0.bare,Un.kept hk,⟨_,x.toInCall.ns,fun i y v h1 h2 h3=>?_⟩,fun y c h=>⟨_,x.cell y c h⟩,e0.hok.fresh (Nat.le_refl _),fun y c h=>?_,fun p hp=>absurd (show p∈([]:List (Addr×Obj))from hp) (by simp),e0.hok.kept hk,?_⟩
 · exact name_of_addr x.apart (PySem.mem_of_lookup h1) (PySem.mem_of_lookup h2)
 · have hy:scope.names.lookup y=some .cell∨scope.names.lookup y=some .free:=hy
   rcases hy with hy | hy
   · exact cell_has hy
   exact absurd rfl (S.nofree _ (PySem.mem_of_lookup hy))
 · exact Nat.le_of_lt (x.above y c (PySem.mem_of_lookup h))
 · have hi:i < vs.length:=by
    unfold start at h2;by_cases hi:i < vs.length
    · exact hi
    rw[List.getElem?_append_right (by simpa using hi)]at h2
    rw[List.getElem?_replicate]at h2;split at h2 <;> cases h2
   have ha:vs[i]?=some v:=by
    unfold start at h2;rw[List.getElem?_append_left (by simpa using hi),List.getElem?_map]at h2
    cases e:vs[i]? with
    | none=>rw[e]at h2;cases h2
    | some a=>rw[e]at h2;cases h2;rfl
   obtain⟨u,hu,rv⟩:=r.get ha;have hp:ps[i]?=some y:=by
    rw[← S.pre,List.getElem?_take_of_lt (by omega)];exact h1
   have ndP:ps.Nodup:=by rw[← S.pre];exact S.nd.sublist (List.take_sublist _ _)
   refine⟨u,rv,?_⟩;rcases S.par y (List.mem_of_getElem? hp)with k | k
   · exact .inl ⟨k,bindL_get ndP hp hu k⟩
   obtain⟨c,e⟩:=cell_has (n:=s.heap.objs.size+1) k;refine .inr ⟨.inl k,c,e,?_⟩;have q:=x.cell y c e;rw[bindC_get ndP hp hu (by show scope.names.lookup y≠_;rw[k];decide)]at q
   exact q
 · exact e0.hok.fresh (Nat.le_of_lt (x.above y c (PySem.mem_of_lookup h)))
 unfold start;show _=N.length;rw[List.length_append,List.length_map,List.length_replicate];omega
theorem fn_of{CX:CXT}{P:Program}{w:World}{K:W.Frag}{mg:Str->Option Value}{base:Heap}{k:Nat}{f:Addr}{name qual:Str}{params:Arguments}{body:List Stmt}{scope:Scope}{dV kV doc pm cdv ct oc:Value}{an od:Option Addr}
 {osl:Array (Option Value)}{N ps:List Str}{sp:Sp} (lk:K.lookup f=some ⟨oc,od,.func (W.fnOf name qual params body scope dV kV doc pm an cdv ct),osl⟩) (hcd:W.codeIn K cdv qual=true) (S:FnScope N ps scope)
 (len:∀ vs H Q E,sp vs H Q E->vs.length=ps.length)
 (hbody:∀(A:Around) (outer:List Env) (s:Shared) (H:Hp) (vs:List V) (Q:VK) (E:XK),Room k (A.deeper (envOfC qual scope s.heap.objs.size f cdv))->sp vs H Q E ->
  ∃ t,PSs (cxOf CX P w K mg base N qual scope f cdv A outer s H E) body t/\t { nx:=fun _ H'=>Q .non H',rt:=Q } (start N vs) H) :
 FnOk P w K mg base CX (k+1) f (W.fnOf name qual params body scope dV kV doc pm an cdv ct) ps sp:=by
 refine⟨len,fun A outer s H args us vs Q E hr e0 hb r hsp=>?_⟩;have hl:=len _ _ _ _ hsp;have KX:K.In s.heap:=e0.mod.kin.keeps fun b o e=>(e0.bs b o e).1;have lim:s.heap.NoLimit:=e0.mod.nolimit.keeps fun b o e=>(e0.bs b o e).1;have hkind:∀ y∈ps.zip us,scope.names.lookup y.1=some .local∨(scope.names.lookup y.1=some .cell/\((cellsFrom (s.heap.objs.size+1) scope.names []).lookup y.1).isSome=true):=fun⟨n,v⟩ hy=>by
  rcases S.par n (List.of_mem_zip hy).1 with q | q
  · exact .inl q
  exact .inr ⟨q,W.cellsFrom_some _ _ _ (.inl q)⟩
 refine codeAny_call_function hr.depth (KX _ _ lk) rfl S.co S.gen rfl (W.codeRec_of KX hcd) (hb _ _ _ _ ?_);refine wpAny_newFunctionEnv_cells S.kind hkind fun env he s1 x=>?_;subst he;refine⟨lim.keeps x.toInCall.keep,codeAny_func ?_⟩;obtain⟨t,ht,hq⟩:=hbody A outer s H vs Q E (hr.deeper _) hsp;have I:Inv (cxOf CX P w K mg base N qual scope f cdv A outer s H E) [] (start N vs) H s1:=inv_start S hr.hd e0 hl r x;refine wpAny_mono (ht [] s1 (start N vs) H _ I hq) (fun fl s' hs=>?_) fun e s' hs=>hs;have fin:∀{σ':St}{H':Hp}{v:V}{u:Value},Inv (cxOf CX P w K mg base N qual scope f cdv A outer s H E) [] σ' H' s'->RelV v u->Q v H'->CE outer P w H s Q u s':=
  fun {σ' H' v u} J rv q=>⟨v,H',J.os,J.bare,J.base,J.hok,rv,q⟩
 cases fl with
 | ret u=>
   obtain⟨v,σ',H',J,rv,q⟩:=hs;exact fin J rv q
 | next=>
   obtain⟨σ',H',J,q⟩:=hs;exact fin (v:=V.non) (u:=Value.none) J rfl q
 | brk=>
   obtain⟨_,_,_,q⟩:=hs;exact False.elim q
 | cont=>
   obtain⟨_,_,_,q⟩:=hs;exact False.elim q
end L2
namespace L2
open PySem PySem.Spec PyProof.Rows
section
variable{X:Cx}{x:Str}{p pos:Pos}{e:Expr}{es:List Expr}{t:TA}{id T:String}{r:List V->Hp->VK->Prop}
noncomputable def tCB(r:List V->Hp->VK->Prop)(t:TA):TE:=fun σ H Q=>t σ H fun vs H1=>r vs H1 Q
theorem pe_callB(hc:CallR X (.builtin id) r)(hg:Gl X x)(hm:X.mg x=none)(hv:bootBuiltins x=some (.builtin id))(ha:PA X (e::es) t)(hn:x ≠ "__name__":=by decide)(hdb:(x == ("__debug__":Str))=false:=by decide)
 (he:starEach (e::es) X.env=(false,eval e X.env)::starEach es X.env:=by rfl) (hpl:(backTo pos (starEach es X.env)).any (·.1)=false:=by rfl):PE X (.Call (.Name x p) (e::es) [] pos) (tCB r t):=by
 intro pins s σ H Q I h;refine wpAny_Call_Name_kw (ld_blt I hg hm hv ?_ hn hdb);exact PyProof.Rows.callWith_builtin1 (thn (ha pos pins s σ H _ I h) fun us s1 ⟨vs,H1,I1,r1,q1⟩=>hc pins s1 σ H1 vs us Q I1 r1 q1) he hpl
theorem pe_callTy(hc:CallR X (.type T) r)(hg:Gl X x)(hm:X.mg x=none)(hv:bootBuiltins x=some (.type T))(ha:PA X (e::es) t)(hn:x ≠ "__name__":=by decide)(hdb:(x == ("__debug__":Str))=false:=by decide)
 (he:starEach (e::es) X.env=(false,eval e X.env)::starEach es X.env:=by rfl) (hpl:(backTo pos (starEach es X.env)).any (·.1)=false:=by rfl):PE X (.Call (.Name x p) (e::es) [] pos) (tCB r t):=by
 intro pins s σ H Q I h;refine wpAny_Call_Name_kw (ld_blt I hg hm hv ?_ hn hdb);exact PyProof.Rows.callWith_type1 (thn (ha pos pins s σ H _ I h) fun us s1 ⟨vs,H1,I1,r1,q1⟩=>hc pins s1 σ H1 vs us Q I1 r1 q1) he hpl
end
end L2
namespace HT
open PySem PyProof.Rows
section
open PySem.SeqAt
open PySem.AutoSeq1 (wpAny_loadPart')
open PySem.MeetsSeq PySem.MeetsSeq2 PySem.MeetsSeq3
end
section
variable{prog:Program}{w:World}{A:Around}{E:Value->Shared->Prop}{s:Shared}
noncomputable def sIx(n d:Nat):Option Int->Nat
 | none=>d
 | some v=>if v < 0 then(v+(n:Int)).toNat else min v.toNat n
end
end HT
namespace L2
open PySem PySem.Spec PyProof.Rows
noncomputable abbrev TO:=St->Hp->(Option Int->Hp->Prop)->Prop
noncomputable def PO(X:Cx)(e:Option Expr)(t:TO):Prop:=
 ∀(pins:List (Addr×Obj)) (s:Shared) (σ:St) (H:Hp) (Q:Option Int->Hp->Prop),Inv X pins σ H s->t σ H Q ->
   wpAny (model X.prog X.w) X.A (evalPart e X.env) (fun u s'=>∃ o H',Inv X pins σ H' s'/\IsPart u o/\Q o H') X.xe s
noncomputable def tNoPart:TO:=fun _ H Q=>Q none H
noncomputable def tPart(t:TE):TO:=fun σ H Q=>t σ H fun x H1=>∃ i,x=.int i/\Q (some i) H1
theorem intsAre_of{ns:List Int}:∀{us:List Value},Vals (ns.map V.int) us->IntsAre us ns:=by
 induction ns with
 | nil=>intro us r;rw[List.map_nil]at r;cases r;exact .nil
 | cons n ns ih=>
   intro us r;rw[List.map_cons]at r;cases r with
   | cons r1 r2=>
     obtain⟨t,e⟩:=r1;subst e;exact .cons n t (ih r2)
section
variable{X:Cx}{e:Expr}{te:TE}{lo hi:Option Expr}{tl th:TO}{pos p2:Pos}
theorem po_none:PO X none tNoPart:=by
 intro pins s σ H Q I h;rw[evalPart_none];exact wpAny_pure ⟨none,H,I,.none,h⟩
theorem po_some(h:PE X e te):PO X (some e) (tPart te):=by
 intro pins s σ H Q I hw;rw[evalPart_some];refine thn (h pins s σ H _ I hw) fun u s1 zz=>?_;obtain⟨x,H1,I1,r1,q1⟩:=zz;obtain⟨i,rfl,q⟩:=q1;obtain⟨t,rfl⟩:=r1;exact⟨some i,H1,I1,.int i t,q⟩
noncomputable def SlR(X:Cx)(r:V->Option Int->Option Int->Hp->VK->Prop):Prop:=
 ∀(pins:List (Addr×Obj)) (s:Shared) (σ:St) (H:Hp) (x:V) (v vl vu:Value) (lo hi:Option Int) (sl:Addr) (Q:VK),Inv X pins σ H s->RelV x v->s.heap.IsSliceOf sl vl vu .none->IsPart vl lo->IsPart vu hi->r x lo hi H Q ->
   ∃ T id,typeLookup (.type T) "__getitem__"=pure (some (.builtin id))/\s.TypeIs v T/\wpAny (model X.prog X.w) X.A (getItem v (.ref sl)) (EP X pins σ Q) X.xe s
noncomputable def tSl(r:V->Option Int->Option Int->Hp->VK->Prop)(te:TE)(tl th:TO):TE:=fun σ H Q=>te σ H fun x H1=>tl σ H1 fun l H2=>th σ H2 fun u H3=>r x l u H3 Q
theorem pe_slice{r:V->Option Int->Option Int->Hp->VK->Prop}(hr:SlR X r)(he:PE X e te)(hl:PO X lo tl)(hu:PO X hi th):PE X (.Subscript e (.Slice lo hi none p2) pos) (tSl r te tl th):=by
 intro pins s σ H Q I h;refine Subscript_ (thn (he pins s σ H _ I h) fun v s1 zz=>?_);obtain⟨x,H1,I1,r1,q1⟩:=zz;refine wpAny_Slice (thn (hl pins s1 σ H1 _ I1 q1) fun vl s2 ⟨l,H2,I2,pl,q2⟩=>thn (hu pins s2 σ H2 _ I2 q2) fun vu s3 zz=>?_);obtain⟨u,H3,I3,pu,q3⟩:=zz;rw[evalPart_none];refine wpAny_pure ?_;have I4:Inv X pins σ H3 { s3 with heap:=s3.heap.push { cls:=.type "slice",data:=.fields #[vl,vu,.none] } }:=I3.kept (t':=s3.toks) fun b ob q=>Heap.get?_push_of_some _ q;obtain⟨T,id,hT,ht,hg⟩:=hr pins { s3 with heap:=s3.heap.push { cls:=.type "slice",data:=.fields #[vl,vu,.none] } } σ H3 x v vl vu l u s3.heap.objs.size Q I4 r1 (Heap.IsSliceOf.new ..) pl pu q3;show wpAny (model X.prog X.w) X.A (subscriptTail e (.Slice lo hi none p2) v (.ref s3.heap.objs.size)) (EP X pins σ Q) X.xe { s3 with heap:=s3.heap.push { cls:=.type "slice",data:=.fields #[vl,vu,.none] } };exact tail_any (ops:=[.ref s3.heap.objs.size,v]) ht hT hg (by with_unfolding_all rfl)
noncomputable def cutV(xs:List V)(lo hi:Option Int):List V:=(xs.drop (HT.sIx xs.length 0 lo)).take (HT.sIx xs.length xs.length hi - HT.sIx xs.length 0 lo)
theorem cutV_length(xs:List V)(lo hi:Option Int):(cutV xs lo hi).length<=xs.length:=by
 unfold cutV;rw[List.length_take,List.length_drop];omega
end
end L2
namespace L2
open PySem PySem.Spec PyProof.Rows
noncomputable def ixN(n:Nat)(i:Int):Option Nat:=if 0<=i then(if i < n then some i.toNat else none)else if -(n:Int)<=i then some (i+n).toNat else none
noncomputable def atI{α:Type}(xs:List α)(i:Int):Option α:=(ixN xs.length i).bind fun j=>xs[j]?
theorem ixN_seq{n:Nat}{i:Int}{j:Nat}(h:ixN n i=some j):seqIndex? i n=some j/\j < n /\ -(n:Int)<=i/\i < n:=by
 unfold ixN at h;by_cases h0:0<=i
 · rw[if_pos h0]at h
   by_cases h1:i < n
   · rw[if_pos h1]at h
     have e:i.toNat=j:=Option.some.inj h;exact⟨by rw[seqIndex_of h0 h1,e],by omega,by omega,h1⟩
   rw[if_neg h1]at h;cases h
 rw[if_neg h0]at h;by_cases h1:-(n:Int)<=i
 · rw[if_pos h1]at h
   have e:(i+n).toNat=j:=Option.some.inj h;exact⟨by rw[seqIndex_neg (by omega) h1,e],by omega,h1,by omega⟩
 rw[if_neg h1]at h;cases h
theorem atI_get{α:Type}{xs:List α}{i:Int}{v:α}(h:atI xs i=some v):∃ j,seqIndex? i xs.length=some j/\xs[j]?=some v/\j < xs.length /\ -(xs.length:Int)<=i/\i < xs.length:=by
 unfold atI at h;cases e:ixN xs.length i with
 | none=>rw[e]at h;cases h
 | some j=>
   rw[e]at h;obtain⟨h1,h2,h3,h4⟩:=ixN_seq e;exact⟨j,h1,h,h2,h3,h4⟩
theorem atI_nat{α:Type}{xs:List α}{j:Nat}{v:α}(h:xs[j]?=some v):atI xs (j:Int)=some v:=by
 have hj:j < xs.length:=(List.getElem?_eq_some_iff.mp h).1;have e:ixN xs.length (j:Int)=some j:=by
  unfold ixN;rw[if_pos (by omega),if_pos (by omega)];simp
 unfold atI;rw[e];exact h
noncomputable def PlainIx(b:Expr):Prop:=∀ o i,subscripted b false o i=operate [o,i] (getItem o i)
noncomputable def IxR(X:Cx)(r:R2):Prop:=
 ∀(value slice:Expr) (pins:List (Addr×Obj)) (s:Shared) (σ:St) (H:Hp) (x y:V) (v u:Value) (Q:VK),Inv X pins σ H s->RelV x v->RelV y u->r x y H Q ->
   subscripted slice false v u=operate [v,u] (getItem v u)->wpAny (model X.prog X.w) X.A (subscriptTail value slice v u) (EP X pins σ Q) X.xe s
noncomputable def MtR(X:Cx)(id:String)(r:V->List V->Hp->VK->Prop):Prop:=
 ∀(pins:List (Addr×Obj)) (s:Shared) (σ:St) (H:Hp) (x:V) (xs:List V) (v:Value) (us:List Value) (Q:VK),Inv X pins σ H s->RelV x v->Vals xs us->r x xs H Q ->
   wpAny (model X.prog X.w) X.A (call (.builtin id) (v::us)) (EP X pins σ Q) X.xe s
section
variable{X:Cx}{a b:Expr}{ta tb:TE}{pos:Pos}
theorem pe_ix{r:R2}(hr:IxR X r)(ha:PE X a ta)(hb:PE X b tb)(hs:PlainIx b):PE X (.Subscript a b pos) (tOp r ta tb):=by
 intro pins s σ H Q I h;exact Subscript_ (binT ha hb I h fun v u s2 x y H2 I2 rx ry q=>hr a b pins s2 σ H2 x y v u Q I2 rx ry q (hs _ _))
noncomputable def rIxL(K:W.Frag):R2:=fun x y H Q=>∃ p xs i v,x=.ref p/\y=.int i/\SqL K H p xs/\atI xs i=some v/\Q v H
noncomputable def rIxT(K:W.Frag):R2:=fun x y H Q=>∃ p xs i v,x=.ref p/\y=.int i/\SqT K H p xs/\atI xs i=some v/\Q v H
theorem ix_list:IxR X (rIxL X.K):=by
 intro value slice pins s σ H x y v u Q I rx ry h hs;obtain⟨p,xs,i,z,rfl,rfl,hq,he,q⟩:=h;cases rx;obtain⟨t,rfl⟩:=ry;obtain⟨its,r,pl,hz⟩:=I.list hq;obtain⟨j,h1,h2,h3,h4,h5⟩:=atI_get he;obtain⟨w,ew,rw'⟩:=r.get h2;have hl:=r.length;have hn:=line63;have fin:EP X pins σ Q w s:=⟨z,H,I,rw',q⟩;by_cases h0:0<=i
 · have hj:i.toNat=j:=by
    rw[seqIndex_of h0 h5]at h1;exact Option.some.inj h1
   exact item_listR pl.isList h0 (by omega) (by rw[hj];simpa using ew) fin hs
 have hj:(i+(its.toArray.size:Int)).toNat=j:=by
  rw[seqIndex_neg (by omega) h4]at h1
  rw[List.size_toArray,← hl];exact Option.some.inj h1
 exact subscriptTail_builtinR (x:=w) pl.isList.typeIs slot_list_getitem.lookup
  (wpAny_getItem_list_neg (Q:=fun r s'=>r=w/\EP X pins σ Q r s') pl.isList (by omega) (by rw[List.size_toArray] <;> omega) (by omega) (by rw[hj];simpa using ew) ⟨rfl,fin⟩) hs
theorem ix_tup:IxR X (rIxT X.K):=by
 intro value slice pins s σ H x y v u Q I rx ry h hs;obtain⟨p,xs,i,z,rfl,rfl,hq,he,q⟩:=h;cases rx;obtain⟨t,rfl⟩:=ry;obtain⟨its,r,pl,hz⟩:=I.tuple hq;obtain⟨j,h1,h2,h3,h4,h5⟩:=atI_get he;obtain⟨w,ew,rw'⟩:=r.get h2;have hl:=r.length;have hn:=line63;have fin:EP X pins σ Q w s:=⟨z,H,I,rw',q⟩;exact subscriptTail_builtinR (x:=w) pl.typeIs slot_tuple_getitem.lookup
  (getItem_tuple (j:=j) (Q:=fun r s'=>r=w/\EP X pins σ Q r s') pl (by omega) (by omega) (by rw[List.size_toArray,← hl];exact h1) (by simpa using ew) ⟨rfl,fin⟩) hs
theorem mapSeq_set(its:List Value)(n j:Nat)(u:Value):Obj.mapSeq (·.setIfInBounds j u) { cls:=.type "list",data:=.seq its.toArray n }={ cls:=.type "list",data:=.seq (its.set j u).toArray n }:=by
 simp[Obj.mapSeq]
theorem Inv.lst{pins:List (Addr×Obj)}{σ:St}{H:Hp}{s:Shared}{p:Addr}{xs:List V}(I:Inv X pins σ H s)(h:H p=some (.lst xs)) :
 ∃(its:List Value) (n:Nat),Vals xs its/\s.heap.get? p=some { cls:=.type "list",data:=.seq its.toArray n } /\ xs.length<=sizeLine:=by
 obtain⟨z,its,n,r,e⟩:=I.hok p _ h;exact⟨its,n,r,e,z⟩
theorem Inv.lstUpd{pins:List (Addr×Obj)}{σ:St}{H:Hp}{s:Shared}{p:Addr}{xs ys:List V}{its its':List Value}{n n':Nat}{f:Obj->Obj}(I:Inv X pins σ H s)(h:H p=some (.lst xs))
 (ho:s.heap.get? p=some { cls:=.type "list",data:=.seq its.toArray n }) (hf:f { cls:=.type "list",data:=.seq its.toArray n }={ cls:=.type "list",data:=.seq its'.toArray n' }) (r:Vals ys its') (hz:ys.length<=sizeLine) (t:Nat) :
 Inv X pins σ (upd H p (.lst ys)) { s with heap:=s.heap.update p f,toks:=t }:=by
 have e:(s.heap.update p f).get? p=some { cls:=.type "list",data:=.seq its'.toArray n' }:=by
  rw[Heap.get?_update_self f ho (by rw[hf] <;> rfl),hf]
 refine I.write (x:=p) (e:=p) (by rw[h];trivial) (.inl rfl) (fun b u hb q=>(Heap.get?_update_other _ _ (Ne.symm hb)).trans q) ⟨_,e⟩ ?_
 exact⟨hz,its',n',r,e⟩
noncomputable def rSetL:V->V->V->Hp->(Hp->Prop)->Prop:=fun o i v H Q=>∃ p xs k j,o=.ref p/\i=.int k/\H p=some (.lst xs)/\ixN xs.length k=some j/\Q (upd H p (.lst (xs.set j v)))
theorem set_list:PSet X rSetL:=by
 intro pins s σ H o i v ov iv u Q I ro ri rv h;obtain⟨p,xs,k,j,rfl,rfl,hp,hj,q⟩:=h;cases ro;obtain⟨t,rfl⟩:=ri;obtain⟨its,n,r,ho,hz⟩:=I.lst hp;obtain⟨h1,h2,h3,h4⟩:=ixN_seq hj;have hl:=r.length;have hn:=line63;have I':Inv X pins σ (upd H p (.lst (xs.set j v))) { s with heap:=s.heap.update p (Obj.mapSeq (·.setIfInBounds j u)) }:=
  I.lstUpd hp ho (mapSeq_set its n j u) (r.set rv j) (by rw[List.length_set];exact hz) s.toks
 by_cases h0:0<=k
 · have hk:k.toNat=j:=by
    rw[seqIndex_of h0 h4]at h1;exact Option.some.inj h1
   exact W.ki_setAt ho h0 (by omega) (by rw[List.size_toArray,← hl];exact h4) (by rw[hk];exact⟨_,I',q⟩)
 have hk:(k+(its.toArray.size:Int)).toNat=j:=by
  rw[seqIndex_neg (by omega) h3]at h1
  rw[List.size_toArray,← hl];exact Option.some.inj h1
 exact W.ki_setBack ho (by omega) (by rw[List.size_toArray,← hl];exact h3) (by omega) (by rw[hk];exact⟨_,I',q⟩)
theorem slice_bounds(lo hi:Option Int)(n:Nat):(sliceBounds lo hi none n).1=((HT.sIx n 0 lo:Nat):Int)/\(sliceBounds lo hi none n).2.1=((HT.sIx n n hi:Nat):Int)/\(sliceBounds lo hi none n).2.2=1:=by
 refine⟨?_,?_,rfl⟩
 · cases lo with
   | none=>simp[sliceBounds,HT.sIx]
   | some i=>
     simp only[sliceBounds,HT.sIx,Option.getD_none,show(1:Int) > 0 by decide,if_true]
     by_cases h:i < 0
     · simp only[h,if_true] <;> omega
     simp only[h,if_false] <;> omega
 cases hi with
 | none=>simp[sliceBounds,HT.sIx]
 | some i=>
   simp only[sliceBounds,HT.sIx,Option.getD_none,show(1:Int) > 0 by decide,if_true]
   by_cases h:i < 0
   · simp only[h,if_true] <;> omega
   simp only[h,if_false] <;> omega
theorem slicePick_cut(its:List Value)(lo hi:Option Int):slicePick its.toArray lo hi none=((its.drop (HT.sIx its.length 0 lo)).take (HT.sIx its.length its.length hi - HT.sIx its.length 0 lo)).toArray:=by
 obtain⟨h1,h2,h3⟩:=slice_bounds lo hi its.toArray.size;unfold slicePick;rw[h1,h2,h3];simp only[sliceRange_one,pick_run,List.size_toArray] <;> rfl
noncomputable def rSlL(K:W.Frag):V->Option Int->Option Int->Hp->VK->Prop:=fun x lo hi H Q=>∃ a xs,x=.ref a/\SqL K H a xs /\ ∀ p,H p=none->Q (.ref p) (upd H p (.lst (cutV xs lo hi)))
theorem sl_list:SlR X (rSlL X.K):=by
 intro pins s σ H x v vl vu lo hi sl Q I rx hs pl pu h;obtain⟨a,xs,rfl,hx,q⟩:=h;cases rx;obtain⟨its,r,ht,hz⟩:=I.list hx;have hlen:=r.length;refine⟨"list",_,slot_list_getitem.lookup,ht.isList.typeIs,?_⟩;refine wpAny_getItem_list_slice ht.isList hs pl pu .none (by simp) ?_ (by rw[List.size_toArray] <;> omega)
 rw[slicePick_cut,← hlen];refine⟨.ref s.heap.objs.size,_,I.laid (t':=s.toks) (o:=.lst (cutV xs lo hi)) (fun b ob q=>Heap.get?_push_of_some _ q) (Nat.le_refl _) ?_,rfl,q _ (I.hok.fresh (Nat.le_refl _))⟩;exact⟨Nat.le_trans (cutV_length xs lo hi) hz,_,0,(r.drop (HT.sIx xs.length 0 lo)).take (HT.sIx xs.length xs.length hi - HT.sIx xs.length 0 lo),Heap.get?_push_size _ rfl⟩
noncomputable def flatV:V->Bool
 | .non=>true
 | .bl _=>true
 | .int _=>true
 | .str _=>true
 | _=>false
noncomputable def eqV:V->V->Bool
 | .non,.non=>true
 | .bl a,.bl b=>a == b
 | .bl a,.int b=>(if a then 1 else 0) == b
 | .int a,.bl b=>a == (if b then 1 else 0)
 | .int a,.int b=>a == b
 | .str a,.str b=>a == b
 | _,_=>false
theorem eqAt_V{A:Around}{s:Shared}{y x:V}{u v:Value}(ry:RelV y u)(rx:RelV x v)(fy:flatV y=true)(fx:flatV x=true):SeqAt.EqAt A s u v (eqV y x):=by
 cases y with
 | non=>
   cases ry;cases x with
   | non=>cases rx;exact SeqAt.EqAt.same _
   | bl b=>cases rx;exact SeqAt.EqAt.none_bool b
   | int b=>obtain⟨t,rfl⟩:=rx;exact SeqAt.EqAt.none_int b t
   | str b=>obtain⟨t,rfl⟩:=rx;exact SeqAt.EqAt.none_str b t
   | _=>exact absurd (show false=true from fx) Bool.false_ne_true
 | bl a=>
   cases ry;cases x with
   | non=>cases rx;exact SeqAt.EqAt.bool_none a
   | bl b=>cases rx;exact SeqAt.EqAt.bool_bool a b
   | int b=>obtain⟨t,rfl⟩:=rx;exact SeqAt.EqAt.bool_int a b t
   | str b=>obtain⟨t,rfl⟩:=rx;exact SeqAt.EqAt.bool_str a b t
   | _=>exact absurd (show false=true from fx) Bool.false_ne_true
 | int a=>
   obtain⟨t',rfl⟩:=ry;cases x with
   | non=>cases rx;exact SeqAt.EqAt.int_none a t'
   | bl b=>cases rx;exact SeqAt.EqAt.int_bool a t' b
   | int b=>obtain⟨t,rfl⟩:=rx;exact SeqAt.EqAt.int_int a t' b t
   | str b=>obtain⟨t,rfl⟩:=rx;exact SeqAt.EqAt.int_str a t' b t
   | _=>exact absurd (show false=true from fx) Bool.false_ne_true
 | str a=>
   obtain⟨t',rfl⟩:=ry;cases x with
   | non=>cases rx;exact SeqAt.EqAt.str_none a t'
   | bl b=>cases rx;exact SeqAt.EqAt.str_bool a t' b
   | int b=>obtain⟨t,rfl⟩:=rx;exact SeqAt.EqAt.str_int a t' b t
   | str b=>obtain⟨t,rfl⟩:=rx;exact SeqAt.EqAt.str_str a t' b t
   | _=>exact absurd (show false=true from fx) Bool.false_ne_true
 | _=>exact absurd (show false=true from fy) Bool.false_ne_true
noncomputable def eqU(x:V)(u:Value):Bool:=match u with
 | .none=>eqV .non x
 | .bool b=>eqV (.bl b) x
 | .int i _=>eqV (.int i) x
 | .str z _=>eqV (.str z) x
 | _=>false
theorem eqU_of{x y:V}{u:Value}(r:RelV y u)(f:flatV y=true):eqU x u=eqV y x:=by
 cases y with
 | non=>cases r;rfl
 | bl b=>cases r;rfl
 | int i=>obtain⟨t,rfl⟩:=r;rfl
 | str z=>obtain⟨t,rfl⟩:=r;rfl
 | _=>exact absurd (show false=true from f) Bool.false_ne_true
theorem any_eqU{x:V}:∀{xs:List V}{us:List Value},Vals xs us->xs.all flatV=true->us.any (eqU x)=xs.any fun y=>eqV y x
 | _,_,.nil,_=>rfl
 | y::xs,u::us,.cons r t,f=>by
   rw[List.all_cons,Bool.and_eq_true]at f;rw[List.any_cons,List.any_cons,eqU_of r f.1,any_eqU t f.2]
theorem mem_eqAt{A:Around}{s:Shared}{x:V}{v:Value}(rx:RelV x v)(fx:flatV x=true):∀{xs:List V}{us:List Value},Vals xs us->xs.all flatV=true -> ∀ u∈us,SeqAt.EqAt A s u v (eqU x u)
 | _,_,.nil,_=>fun u hu=>by cases hu
 | y::xs,u::us,.cons r t,f=>fun u' hu=>by
   rw[List.all_cons,Bool.and_eq_true]at f;rcases List.mem_cons.mp hu with rfl | hu
   · rw[eqU_of r f.1];exact eqAt_V r rx f.1 fx
   exact mem_eqAt rx fx t f.2 u' hu
noncomputable def inV(x:V)(xs:List V):Bool:=xs.any fun y=>eqV y x
noncomputable def rIn(K:W.Frag)(neg:Bool):R2:=fun x y H Q=>∃ p xs,y=.ref p/\(SqL K H p xs∨SqT K H p xs)/\flatV x=true/\xs.all flatV=true/\Q (.bl (if neg then !inV x xs else inV x xs)) H
theorem op_in_seq:OpR X (compareOp .In) (rIn X.K false):=by
 intro pins s σ H x y v u Q I rx ry h;obtain⟨p,xs,rfl,hq,fx,fs,q⟩:=h;cases ry;rcases hq with hq | hq
 · obtain⟨its,r,pl,hz⟩:=I.list hq
   refine SeqAt.in_listAt (eqU x) pl.isList (fun w hw=>mem_eqAt rx fx r fs w (by simpa using hw)) ⟨.bl _,H,I,rfl,?_⟩
   rw[show its.toArray.any (eqU x)=its.any (eqU x) by simp,any_eqU r fs]
   exact q
 obtain⟨its,r,pl,hz⟩:=I.tuple hq;refine SeqAt.in_tupleAt (eqU x) pl (fun w hw=>mem_eqAt rx fx r fs w (by simpa using hw)) ⟨.bl _,H,I,rfl,?_⟩
 rw[show its.toArray.any (eqU x)=its.any (eqU x) by simp,any_eqU r fs]
 exact q
theorem call_len_seq:CallR X (.builtin "len") (fun xs H Q=>∃ p ys,xs=[.ref p]/\(SqL X.K H p ys∨SqT X.K H p ys)/\Q (.int ys.length) H):=by
 intro pins s σ H xs us Q I r h;obtain⟨p,ys,rfl,hq,q⟩:=h;obtain⟨u,rfl,rx⟩:=vals1 r;cases rx;have hn:=line63;rcases hq with hq | hq
 · obtain⟨its,r',pl,hz⟩:=I.list hq
   have hlen:=r'.length;exact Calls.call_len_list pl.isList (by simp only[List.size_toArray] <;> omega) ⟨.int ys.length,H,I.tok _,⟨s.toks+1,by rw[List.size_toArray,hlen]⟩,q⟩
 obtain⟨its,r',pl,hz⟩:=I.tuple hq;have hlen:=r'.length;exact len_tuple pl (by simp only[List.size_toArray] <;> omega) ⟨.int ys.length,H,I.tok _,⟨s.toks+1,by rw[List.size_toArray,hlen]⟩,q⟩
theorem call_tuple_of:CallR X (.type "tuple") (fun xs H Q=>∃ p ys,xs=[.ref p]/\((SqL X.K H p ys /\ ∀ l,H l=none->Q (.ref l) (upd H l (.tup ys)))∨(SqT X.K H p ys/\Q (.ref p) H))):=by
 intro pins s σ H xs us Q I r h;obtain⟨p,ys,rfl,h⟩:=h;obtain⟨u,rfl,rx⟩:=vals1 r;cases rx;rcases h with ⟨hq,q⟩ | ⟨hq,q⟩
 · obtain⟨its,r',pl,hz⟩:=I.list hq
   have hlen:=r'.length;refine call_tuple_list pl.isList (fun h' kp=>?_) (by simp only[List.size_toArray] <;> omega)
   have I1:Inv X pins σ H { s with heap:=h' }:=I.kept (t':=s.toks) kp;have I2:Inv X pins σ (upd H h'.objs.size (.tup ys)) { s with heap:=h'.push { cls:=.type "tuple",data:=.seq its.toArray } }:=
    I1.laid (t':=s.toks) (fun b o e=>Heap.get?_push_of_some _ e) (Nat.le_refl _) (show ObjOk X.prog X.w _ _ _ (.tup ys)from⟨hz,its,r',IsTup.new _ _⟩)
   exact⟨.ref h'.objs.size,_,I2,rfl,q _ (I1.hok.fresh (Nat.le_refl _))⟩
 obtain⟨its,r',pl,hz⟩:=I.tuple hq;exact call_tuple_same pl ⟨.ref p,H,I,rfl,q⟩
noncomputable def tyV(K:W.Frag)(T:String)(x:V)(H:Hp):Prop:=match x with
 | .str _=>T="str"
 | .int _=>T="int"
 | .ref p=>(T="list" /\ ∃ xs,SqL K H p xs)∨(T="tuple" /\ ∃ o,K.lookup p=some o/\o.cls=.type "tuple" /\ o.dict=none) ∨
  (T="dict" /\ ((∃ kvs,H p=some (.dK kvs)) ∨ ∃ kvs,H p=some (.dT kvs)))∨(T="set" /\ ∃ S n,H p=some (.set S n))
 | _=>False
theorem tyV_is{pins:List (Addr×Obj)}{σ:St}{H:Hp}{s:Shared}{T:String}{x:V}{v:Value}(I:Inv X pins σ H s)(r:RelV x v)(ty:tyV X.K T x H) :
 s.TypeIs v T /\ ∀ a,v=.ref a -> ∃ ob,s.heap.get? a=some ob/\ob.dict=none:=by
 cases x with
 | str z=>
   obtain⟨t,rfl⟩:=r;cases (show T="str" from ty);exact⟨typeIs_str s z t,fun _ e=>nomatch e⟩
 | int i=>
   obtain⟨t,rfl⟩:=r;cases (show T="int" from ty);exact⟨typeIs_int s i t,fun _ e=>nomatch e⟩
 | ref p=>
   cases r;rcases ty with ⟨rfl,xs,hq⟩ | ⟨rfl,o,hk,hc,hd⟩ | ⟨rfl,hk⟩ | ⟨rfl,S,n,hk⟩
   · obtain⟨its,_,pl,_⟩:=I.list hq
     refine⟨pl.isList.typeIs,fun a e=>?_⟩;cases e;obtain⟨o,n,e,c,hd,_⟩:=pl;exact⟨o,e,hd⟩
   · refine⟨⟨o,I.kIn p o hk,hc⟩,fun a e=>?_⟩
     cases e;exact⟨o,I.kIn _ o hk,hd⟩
   · have z:∃ o,s.heap.get? p=some o/\o.ExactDict:=by
      rcases hk with ⟨kvs,hk⟩ | ⟨kvs,hk⟩
      · obtain⟨_,_,_,_,o,_,_,e,ex,_⟩:=I.hok p _ hk
        exact⟨o,e,ex⟩
      obtain⟨_,_,_,_,o,_,_,e,ex,_⟩:=I.hok p _ hk;exact⟨o,e,ex⟩
     obtain⟨o,e,ex⟩:=z;refine⟨⟨o,e,ex.1⟩,fun a e2=>?_⟩;cases e2;exact⟨o,e,ex.2.1⟩
   obtain⟨o,_,_,_,e,ex,_⟩:=I.hok p _ hk;refine⟨⟨o,e,ex.1⟩,fun a e2=>?_⟩;cases e2;exact⟨o,e,ex.2.1⟩
 | _=>exact False.elim ty
noncomputable def tBM(K:W.Frag)(T:String)(r:V->List V->Hp->VK->Prop)(to:TE)(t:TA):TE:=fun σ H Q=>to σ H fun x H1=>tyV K T x H1/\t σ H1 fun xs H2=>r x xs H2 Q
variable{o e:Expr}{es:List Expr}{to:TE}{t:TA}{name:Str}{apos cpos:Pos}{T id:String}{r:V->List V->Hp->VK->Prop}
theorem pe_bm(pa:PlainAttrs T)(slot:Slot T name id)(hty:typeOf (.builtin id)=pure (.type "method_descriptor"))(hm:MtR X id r)(ho:PE X o to)(ha:PA X (e::es) t)
 (hbase:attributeBase o name X.env (eval o X.env)=eval o X.env:=by rfl)
 (hfew:((backTo cpos (starEach (e::es) X.env)).all (fun x=>!x.1) && (backToKw cpos (keywordEach [] X.env)).all (fun x=>x.1.isSome)
  && decide ((e::es).length+([]:List Keyword).length+(if([]:List Keyword).isEmpty then 0 else 1) < 30))=true:=by rfl)
 (hline:(apos.endLine == cpos.line)=true:=by rfl) (hs:starEach (e::es) X.env=(false,eval e X.env)::starEach es X.env:=by rfl) (hplain:(backTo cpos (starEach es X.env)).any (·.1)=false:=by rfl) :
 PE X (.Call (.Attribute o name apos) (e::es) [] cpos) (tBM X.K T r to t):=by
 intro pins s σ H Q I h;refine wpAny_Call_method_late hbase hfew hline rfl (thn (ho pins s σ H _ I h) fun v s1 zz=>?_);obtain⟨x,H1,I1,r1,ty,q1⟩:=zz;obtain⟨h1,h2⟩:=tyV_is I1 r1 ty;refine⟨T,id,pa,slot,hty,h1,h2,?_⟩;have hA:=ha cpos pins s1 σ H1 _ I1 q1;rw[hs]at hA ⊢;refine Calls.callWith_builtin (by show(false || (backTo cpos (starEach es X.env)).any (·.1))=false;rw[hplain] <;> rfl) (Calls.evalArgs_plain ?_)
 exact thn hA fun us s2 ⟨vs,H2,I2,r2,q2⟩=>hm pins s2 σ H2 x vs v us Q I2 r1 r2 q2
/- xs.append(e),list.index on a module's tuple .. are MtR facts of 06m -/
end
end L2
namespace L2
open PySem PySem.Spec PyProof.Rows
noncomputable def MtM(X:Cx)(id:String)(r:V->List V->Hp->VK->Prop):Prop:=
 ∀(pins:List (Addr×Obj)) (s:Shared) (σ:St) (H:Hp) (x:V) (xs:List V) (v:Value) (us:List Value) (Q:VK),Inv X pins σ H s->RelV x v->Vals xs us->r x xs H Q ->
   wpAny (model X.prog X.w) X.A (call (.builtin id) (v::us)) (EP X pins σ Q) X.xe s
theorem Vals.one:∀{x:V}{us:List Value},Vals [x] us -> ∃ u,us=[u]/\RelV x u
 | _,_,.cons r .nil=>⟨_,rfl,r⟩
section
variable{X:Cx}{pins:List (Addr×Obj)}{σ:St}{H:Hp}{s:Shared}{l b:Addr}{xs ys zs:List V}
theorem Inv.lset{its its':List Value}{n:Nat}{f:Array Value->Array Value}{t':Nat}(I:Inv X pins σ H s)(hH:H l=some (.lst xs))
 (e:s.heap.get? l=some { cls:=.type "list",data:=.seq its.toArray n }) (hf:f its.toArray=its'.toArray) (hv:Vals ys its') (hz:ys.length<=sizeLine) :
 Inv X pins σ (upd H l (.lst ys)) { s with heap:=s.heap.update l (Obj.mapSeq f),toks:=t' }:=by
 have q:=PySem.IsL.update e f;rw[hf]at q;refine I.write (x:=l) (e:=l) (by rw[hH];exact trivial) (.inl rfl) (fun b' u hb hu=>(Heap.get?_update_other s.heap (Obj.mapSeq f) (Ne.symm hb)).trans hu) ⟨_,q⟩ ?_
 exact⟨hz,its',_,hv,q⟩
theorem Inv.lnew{its:List Value}{t':Nat}(I:Inv X pins σ H s)(hv:Vals ys its)(hz:ys.length<=sizeLine) :
 Inv X pins σ (upd H s.heap.objs.size (.lst ys)) { s with heap:=s.heap.push { cls:=.type "list",data:=.seq its.toArray },toks:=t' }:=
 I.laid (fun _ _ q=>Heap.get?_push_of_some _ q) (Nat.le_refl _) ⟨hz,its,0,hv,Heap.get?_push_size _ rfl⟩
theorem Inv.fresh(I:Inv X pins σ H s):H s.heap.objs.size=none:=I.hok.fresh (Nat.le_refl _)
theorem Inv.lstM(I:Inv X pins σ H s)(hH:H l=some (.lst xs)):xs.length<=sizeLine /\ ∃(its:List Value) (n:Nat),Vals xs its/\xs.length=its.length/\s.heap.get? l=some { cls:=.type "list",data:=.seq its.toArray n }:=by
 obtain⟨z,its,n,r,e⟩:=I.hok l _ hH;exact⟨z,its,n,r,r.length,e⟩
theorem notLongL{n:Nat}(h:n<=sizeLine):Builtin.List.listTooLong n=false:=by
 unfold Builtin.List.listTooLong;exact decide_eq_false (by omega)
end
section
variable{X:Cx}
noncomputable def rAppend:V->List V->Hp->VK->Prop:=fun x vs H Q=>∃ l xs y,x=.ref l/\vs=[y]/\H l=some (.lst xs)/\xs.length < sizeLine/\Q .non (upd H l (.lst (xs++[y])))
theorem mt_append:MtM X "list.append" rAppend:=by
 intro pins s σ H x vs v us Q I rx rv h;obtain⟨l,xs,y,rfl,rfl,hH,hz,q⟩:=h;cases rx;obtain⟨u,rfl,ru⟩:=rv.one;obtain⟨z,its,n,r,hl,e⟩:=I.lstM hH;refine call_meets F.slot_list_append ⟨_,e,rfl⟩ F.entry_list_append (F.args_list_append_2 _ _) (PySem.list_append l its.toArray n u (by rw[List.size_toArray];omega)) ⟨e,?_⟩
 refine⟨.non,_,I.lset (its':=its++[u]) hH e (by simp) (r.append (.cons ru .nil)) ?_,rfl,q⟩
 rw[List.length_append,List.length_singleton];omega
noncomputable def rExtend:V->List V->Hp->VK->Prop:=fun x vs H Q=>∃ l b xs zs,x=.ref l/\vs=[.ref b]/\H l=some (.lst xs)/\H b=some (.lst zs)/\xs.length+zs.length<=sizeLine/\Q .non (upd H l (.lst (xs++zs)))
theorem mt_extend:MtM X "list.extend" rExtend:=by
 intro pins s σ H x vs v us Q I rx rv h;obtain⟨l,b,xs,zs,rfl,rfl,hH,hB,hz,q⟩:=h;cases rx;obtain⟨u,rfl,ru⟩:=rv.one;cases ru;obtain⟨z,its,n,r,hl,e⟩:=I.lstM hH;obtain⟨z2,its2,n2,r2,hl2,e2⟩:=I.lstM hB;have hsz:its.toArray.size+its2.toArray.size<=sizeLine:=by rw[List.size_toArray,List.size_toArray];omega
 have hlong:¬ (!its.toArray.isEmpty && Builtin.List.listTooLong (its.toArray.size+its2.toArray.size))=true:=by
  rw[notLongL hsz,Bool.and_false];exact Bool.false_ne_true
 refine call_meets F.slot_list_extend ⟨_,e,rfl⟩ F.entry_list_extend (F.args_list_extend_2 _ _)
  (AutoSeq1.list_extend_list_list_0 l its.toArray n b its2.toArray n2 hlong (by rw[List.size_toArray];omega) (by omega)) ⟨e,e2,?_⟩
 refine⟨.non,_,I.lset (its':=its++its2) hH e (by simp) (r.append r2) ?_,rfl,q⟩
 rw[List.length_append];omega
noncomputable def rCat:R2:=fun x y H Q=>∃ l b xs zs,x=.ref l/\y=.ref b/\H l=some (.lst xs)/\H b=some (.lst zs)/\xs.length+zs.length<=sizeLine /\ ∀ p,H p=none->Q (.ref p) (upd H p (.lst (xs++zs)))
theorem op_cat:OpR X (binaryOp .Add) rCat:=by
 intro pins s σ H x y v u Q I rx ry h;obtain⟨l,b,xs,zs,rfl,rfl,hH,hB,hz,q⟩:=h;cases rx;cases ry;obtain⟨z,its,n,r,hl,e⟩:=I.lstM hH;obtain⟨z2,its2,n2,r2,hl2,e2⟩:=I.lstM hB;refine PySem.P.add_list e e2 ?_ (by rw[List.size_toArray,List.size_toArray];omega)
 have ea:its.toArray++its2.toArray=(its++its2).toArray:=by simp
 rw[ea];exact⟨.ref _,_,I.lnew (t':=s.toks) (r.append r2) (by rw[List.length_append];omega),rfl,q _ I.fresh⟩
end
section
variable{prog:Program}{w:World}{A:Around}{E:Value->Shared->Prop}{s:Shared}
set_option maxRecDepth 100000 in
end
section
variable{X:Cx}
end
end L2
namespace L2
open PySem PySem.Spec PyProof.Rows
section
variable{κ:Type}[DecidableEq κ]
noncomputable def valV(kvs:List (κ × V))(k:κ):Option V:=(kvs.find? fun kv=>decide (kv.1=k)).map (·.2)
noncomputable def putK(kvs:List (κ × V))(k:κ)(v:V):List (κ × V):=
 if(kvs.any fun kv=>decide (kv.1=k))=true then kvs.map (fun kv=>if kv.1=k then(kv.1,v)else kv)else kvs++[(k,v)]
theorem valV_pos{p:κ × V}{r:List (κ × V)}{k:κ}(e:p.1=k):valV (p::r) k=some p.2:=by simp[valV,List.find?_cons,e]
theorem valV_neg{p:κ × V}{r:List (κ × V)}{k:κ}(e:¬ p.1=k):valV (p::r) k=valV r k:=by simp[valV,List.find?_cons,e]
theorem valV_any(k:κ):∀ kvs:List (κ × V),(kvs.any fun kv=>decide (kv.1=k))=(valV kvs k).isSome
 | []=>rfl
 | p::r=>by
   rw[List.any_cons];by_cases e:p.1=k
   · simp only[valV_pos e,decide_eq_true e,Bool.true_or,Option.isSome_some]
   rw[valV_neg e,decide_eq_false e,Bool.false_or];exact valV_any k r
theorem valV_map(k j:κ)(y:V):∀ kvs:List (κ × V),valV (kvs.map fun kv=>if kv.1=k then(kv.1,y)else kv) j=(valV kvs j).map fun x=>if j=k then y else x
 | []=>rfl
 | p::r=>by
   have ih:=valV_map k j y r;rw[List.map_cons];by_cases h:p.1=k
   · rw[if_pos h]
     by_cases e:p.1=j
     · rw[valV_pos (p:=(p.1,y)) e,valV_pos e,Option.map_some,if_pos (e.symm.trans h)]
     rw[valV_neg (p:=(p.1,y)) e,valV_neg e,ih]
   rw[if_neg h];by_cases e:p.1=j
   · rw[valV_pos (p:=p) e,valV_pos e,Option.map_some,if_neg (fun z=>h (e.trans z))]
   rw[valV_neg (p:=p) e,valV_neg e,ih]
theorem valV_snoc(k j:κ)(y:V):∀ kvs:List (κ × V),valV kvs k=none->valV (kvs++[(k,y)]) j=if j=k then some y else valV kvs j
 | [],_=>by
   by_cases e:k=j
   · rw[if_pos e.symm];exact valV_pos (p:=(k,y)) e
   rw[if_neg (fun z=>e z.symm)];exact valV_neg (p:=(k,y)) e
 | p::r,hn=>by
   rw[List.cons_append];have hk:¬ p.1=k:=fun z=>by rw[valV_pos z]at hn;cases hn
   rw[valV_neg hk]at hn;have ih:=valV_snoc k j y r hn;by_cases e:p.1=j
   · rw[valV_pos e,valV_pos e,if_neg (fun z=>hk (e.trans z))]
   rw[valV_neg e,valV_neg e,ih]
theorem valV_put(kvs:List (κ × V))(k j:κ)(y:V):valV (putK kvs k y) j=if j=k then some y else valV kvs j:=by
 unfold putK;by_cases a:(kvs.any fun kv=>decide (kv.1=k))=true
 · rw[if_pos a,valV_map]
   rw[valV_any]at a;by_cases e:j=k
   · obtain⟨x,hx⟩:=Option.isSome_iff_exists.mp a
     rw[if_pos e,e,hx,Option.map_some,if_pos rfl]
   rw[if_neg e];cases valV kvs j with
   | none=>rfl
   | some x=>rw[Option.map_some,if_neg e]
 rw[if_neg a];refine valV_snoc k j y kvs ?_;rw[valV_any]at a;cases q:valV kvs k with
 | none=>rfl
 | some x=>rw[q]at a;exact(a rfl).elim
theorem length_putK(kvs:List (κ × V))(k:κ)(v:V):(putK kvs k v).length<=kvs.length+1:=by
 unfold putK;split
 · rw[List.length_map];omega
 rw[List.length_append,List.length_cons,List.length_nil];omega
theorem RelO.isSome_eq{o:Option V}{u:Option Value}(r:RelO o u):o.isSome=u.isSome:=by
 cases o with
 | none=>cases u with
   | none=>rfl
   | some _=>exact(show False from r).elim
 | some _=>cases u with
   | none=>exact(show False from r).elim
   | some _=>rfl
theorem RelO.getD{o:Option V}{u:Option Value}{d:V}{d':Value}(r:RelO o u)(rd:RelV d d'):RelV (o.getD d) (u.getD d'):=by
 cases o with
 | none=>cases u with
   | none=>exact rd
   | some _=>exact(show False from r).elim
 | some _=>cases u with
   | none=>exact(show False from r).elim
   | some _=>exact r
theorem KV.val{kvs:List (κ × V)}{vs:List (κ × Value)}(r:KV kvs vs)(k:κ):RelO (valV kvs k) (valueAt vs k):=by
 unfold KV at r
 induction r with
 | nil=>exact True.intro
 | @cons p q ps qs h t ih=>
   obtain⟨h1,h2⟩:=h;by_cases e:p.1=k
   · have e':q.1=k:=h1.symm.trans e
     have b:valueAt (q::qs) k=some q.2:=by simp[valueAt,List.find?_cons,e']
     rw[valV_pos e,b];exact h2
   have e':¬ q.1=k:=fun z=>e (h1.trans z);have b:valueAt (q::qs) k=valueAt qs k:=by simp[valueAt,List.find?_cons,e']
   rw[valV_neg e,b];exact ih
theorem KV.any{kvs:List (κ × V)}{vs:List (κ × Value)}(r:KV kvs vs)(k:κ):(kvs.any fun kv=>decide (kv.1=k))=vs.any fun kv=>decide (kv.1=k):=by
 unfold KV at r
 induction r with
 | nil=>rfl
 | cons h t ih=>rw[List.any_cons,List.any_cons,ih,h.1]
theorem KV.repl{kvs:List (κ × V)}{vs:List (κ × Value)}(r:KV kvs vs)(k:κ){y:V}{u:Value}(ry:RelV y u) :
 KV (kvs.map fun kv=>if kv.1=k then(kv.1,y)else kv) (vs.map fun kv=>if kv.1=k then(kv.1,u)else kv):=by
 unfold KV at r ⊢
 induction r with
 | nil=>exact .nil
 | @cons p q ps qs h t ih=>
   rw[List.map_cons,List.map_cons];refine .cons ?_ ih;obtain⟨h1,h2⟩:=h;by_cases e:p.1=k
   · rw[if_pos e,if_pos (h1.symm.trans e)];exact⟨h1,ry⟩
   rw[if_neg e,if_neg (fun z=>e (h1.trans z))];exact⟨h1,h2⟩
theorem KV.put{kvs:List (κ × V)}{vs:List (κ × Value)}(r:KV kvs vs)(k:κ){y:V}{u:Value}(ry:RelV y u):KV (putK kvs k y) (stored vs k u):=by
 unfold putK stored;rw[r.any k];by_cases e:(vs.any fun kv=>decide (kv.1=k))=true
 · rw[if_pos e,if_pos e];exact r.repl k ry
 rw[if_neg e,if_neg e];exact Paired.snoc r ⟨rfl,ry⟩
theorem KV.length{kvs:List (κ × V)}{vs:List (κ × Value)}(r:KV kvs vs):kvs.length=vs.length:=Paired.length r
end
theorem kV_is{P:Program}{w:World}{k:Key}{u:Value}(r:RelV (kV k) u):(mixKind P w).is k u=true:=by
 cases k with
 | inl i=>obtain⟨t,e⟩:=(show ∃ t,u=Value.int i t from r);subst e;exact mixKind_int P w i t
 | inr x=>obtain⟨t,e⟩:=(show ∃ t,u=Value.str x t from r);subst e;exact mixKind_str P w x t
theorem items_are{P:Program}{w:World}:∀{ks:List Key}{us:List Value},Vals (ks.map kV) us->ItemsAre (mixKind P w) ks us
 | [],_,r=>by rw[List.map_nil]at r;cases r;exact .nil
 | k::ks,_,r=>by
   rw[List.map_cons]at r;cases r with
   | cons h t=>exact .cons (kV_is h) (items_are t)
noncomputable abbrev KT(H:Hp):List (List Key×V)->List (List Key×Addr×Value)->Prop:=Paired fun p q=>p.1=q.1/\H q.2.1=some (.tup (p.1.map kV))/\RelV p.2 q.2.2
theorem KT.val{H:Hp}{kvs:List (List Key×V)}{xs:List (List Key×Addr×Value)}(r:KT H kvs xs)(k:List Key):RelO (valV kvs k) ((atKey xs k).map (·.2)):=by
 induction r with
 | nil=>exact True.intro
 | @cons p q ps qs h t ih=>
   obtain⟨h1,_,h2⟩:=h;by_cases e:p.1=k
   · have e':q.1=k:=h1.symm.trans e
     have b:atKey (q::qs) k=some q.2:=by simp[atKey,List.find?_cons,e']
     rw[valV_pos e,b];exact h2
   have e':¬ q.1=k:=fun z=>e (h1.trans z);have b:atKey (q::qs) k=atKey qs k:=by simp[atKey,List.find?_cons,e']
   rw[valV_neg e,b];exact ih
theorem KT.repl{H:Hp}{kvs:List (List Key×V)}{xs:List (List Key×Addr×Value)}(r:KT H kvs xs)(k:List Key){y:V}{u:Value}(ry:RelV y u) :
 KT H (kvs.map fun kv=>if kv.1=k then(kv.1,y)else kv) (xs.map (putAt k u)):=by
 induction r with
 | nil=>exact .nil
 | @cons p q ps qs h t ih=>
   rw[List.map_cons,List.map_cons];refine .cons ?_ ih;obtain⟨h1,h2,h3⟩:=h;unfold putAt;by_cases e:p.1=k
   · rw[if_pos e,if_pos (h1.symm.trans e)];exact⟨h1,h2,ry⟩
   rw[if_neg e,if_neg (fun z=>e (h1.trans z))];exact⟨h1,h2,h3⟩
theorem KT.put{H:Hp}{kvs:List (List Key×V)}{xs:List (List Key×Addr×Value)}(r:KT H kvs xs)(k:List Key){b:Addr}{y:V}{u:Value}(hb:H b=some (.tup (k.map kV)))(ry:RelV y u) :
 KT H (putK kvs k y) (storedH xs k b u):=by
 have e:(kvs.any fun kv=>decide (kv.1=k))=(atKey xs k).isSome:=by
  rw[valV_any,(r.val k).isSome_eq,Option.isSome_map]
 unfold putK storedH;rw[e];by_cases q:(atKey xs k).isSome=true
 · rw[if_pos q,if_pos q];exact r.repl k ry
 rw[if_neg q,if_neg q];exact Paired.snoc r ⟨rfl,hb,ry⟩
theorem KT.keeps{H H':Hp}{kvs:List (List Key×V)}{xs:List (List Key×Addr×Value)}(r:KT H kvs xs)(ht:∀ b ys,H b=some (.tup ys)->H' b=some (.tup ys)):KT H' kvs xs:=
 Paired.mapP r fun _ _ z=>⟨z.1,ht _ _ z.2.1,z.2.2⟩
section
variable{P:Program}{w:World}{H:Hp}{h:Heap}{a:Addr}
theorem rd_of{u:HO}(ok:HOk P w H h)(e:Rd H a u):ObjOk P w H h a u:=e.ok ok
theorem dk_rd{kvs:List (Key×V)}(ok:HOk P w H h)(e:Rd H a (.dK kvs)):kvs.length<=sizeLine/\(a == sysModules)=false /\ ∃ vs,KV kvs vs/\h.DictOf (mixKind P w) a vs:=
 show ObjOk P w H h a (.dK kvs)from rd_of ok e
theorem dk_of{kvs:List (Key×V)}(ok:HOk P w H h)(e:H a=some (.dK kvs)):kvs.length<=sizeLine/\(a == sysModules)=false /\ ∃ vs,KV kvs vs/\h.DictOf (mixKind P w) a vs:=dk_rd ok (.inl e)
theorem key_of{ks:List Key}(ok:HOk P w H h)(e:H a=some (.tup (ks.map kV))):(tupleKind (mixKind P w)).is h ks a:=by
 obtain⟨_,its,r,o,h1,h2,n,h3⟩:=(show ObjOk P w H h a (.tup (ks.map kV))from ok a _ e);exact⟨o,its.toArray,n,h1,h2,h3,by simpa using items_are r⟩
theorem dt_rd{kvs:List (List Key×V)}(ok:HOk P w H h)(e:Rd H a (.dT kvs)):kvs.length<=sizeLine/\(a == sysModules)=false /\
 ∃ xs,KT H kvs xs/\h.DictOfH (tupleKind (mixKind P w)) a xs:=by
 obtain⟨z,y,xs,r,o,es,ep,h1,h2,h3,h4,h5⟩:=(show ObjOk P w H h a (.dT kvs)from rd_of ok e);refine⟨z,y,xs,r,o,es,ep,h1,h2,h3,h4,fun x hx=>?_,h5⟩;have all:∀{l:List (List Key×V)}{m:List (List Key×Addr×Value)},KT H l m -> ∀ x∈m,(tupleKind (mixKind P w)).is h x.1 x.2.1:=by
  intro l m q
  induction q with
  | nil=>intro x hx;exact nomatch hx
  | @cons p q ps qs hq t ih=>
    intro x hx;rcases List.mem_cons.mp hx with e | hx
    · subst e
      exact key_of ok (by rw[← hq.1];exact hq.2.1)
    exact ih x hx
 exact all r x hx
theorem dt_of{kvs:List (List Key×V)}(ok:HOk P w H h)(e:H a=some (.dT kvs)):kvs.length<=sizeLine/\(a == sysModules)=false /\
 ∃ xs,KT H kvs xs/\h.DictOfH (tupleKind (mixKind P w)) a xs:=dt_rd ok (.inl e)
end
noncomputable def DGet(H:Hp)(a:Addr)(y:V)(r:Option V):Prop:=
 (∃ kvs k,Rd H a (.dK kvs)/\y=kV k/\r=valV kvs k) ∨ ∃ kvs k b,Rd H a (.dT kvs)/\y=.ref b/\H b=some (.tup (k.map kV))/\r=valV kvs k
noncomputable def DPut(H:Hp)(a:Addr)(y v:V)(H':Hp):Prop:=
 (∃ kvs k,H a=some (.dK kvs)/\y=kV k/\kvs.length < sizeLine/\H'=upd H a (.dK (putK kvs k v))) ∨
 ∃ kvs k b,H a=some (.dT kvs)/\y=.ref b/\H b=some (.tup (k.map kV))/\kvs.length < sizeLine/\H'=upd H a (.dT (putK kvs k v))
theorem DGet.k{H:Hp}{a:Addr}{kvs:List (Key×V)}{k:Key}(e:H a=some (.dK kvs)):DGet H a (kV k) (valV kvs k):=.inl ⟨kvs,k,.inl e,rfl,rfl⟩
theorem DPut.k{H:Hp}{a:Addr}{kvs:List (Key×V)}{k:Key}{v:V}(e:H a=some (.dK kvs))(hl:kvs.length < sizeLine):DPut H a (kV k) v (upd H a (.dK (putK kvs k v))):=.inl ⟨kvs,k,e,rfl,hl,rfl⟩
section
variable{X:Cx}{pins:List (Addr×Obj)}{σ:St}{H:Hp}{s:Shared}{a:Addr}{y v:V}{u r:Value}{o:Option V}{A:Around}{E:Value->Shared->Prop}
theorem Inv.big(I:Inv X pins σ H s):sysModules < s.heap.objs.size:=by
 have h:mainGlobals < s.heap.objs.size:=(I.mod.glob.keeps I.bk).lt;exact Nat.lt_trans (by decide) h
theorem d_getItem{Q:Value->Shared->Prop}(hu:A.units+1 < cLine)(I:Inv X pins σ H s)(g:DGet H a y (some v))(ry:RelV y u)(h:∀ w' s',Inv X pins σ H s'->RelV v w'->Q w' s') :
 wpAny (model X.prog X.w) A (getItem (.ref a) u) Q E s:=by
 rcases g with ⟨kvs,k,e,ey,l⟩ | ⟨kvs,k,b,e,ey,eb,l⟩
 · subst ey
   obtain⟨z,hd,vs,rel,dd⟩:=dk_rd I.hok e;obtain⟨w',hw,rw'⟩:=RelO.some_of (v:=v) (o:=valueAt vs k) (by rw[l];exact rel.val k)
   exact wpAny_getItem_of (kV_is ry) dd.mapOf hw (h w' _ (I.tok _) rw')
 subst ey;cases (show u=Value.ref b from ry);obtain⟨z,hd,xs,rel,dd⟩:=dt_rd I.hok e;obtain⟨w',hw,rw'⟩:=RelO.some_of (v:=v) (o:=(atKey xs k).map (·.2)) (by rw[l];exact rel.val k)
 obtain⟨p,hp,hp2⟩:=Option.map_eq_some_iff.mp hw;refine wpAny_getItem_heap (tupleKind_room_in1 hu) (key_of I.hok eb) dd hp ?_;rw[hp2];exact h w' _ (I.tok _) rw'
theorem d_in{Q:Value->Shared->Prop}(hu:A.units+1 < cLine)(I:Inv X pins σ H s)(g:DGet H a y o)(ry:RelV y u)(h:∀ s',Inv X pins σ H s'->Q (.bool o.isSome) s') :
 wpAny (model X.prog X.w) A (compareOp .In u (.ref a)) Q E s:=by
 rcases g with ⟨kvs,k,e,ey,l⟩ | ⟨kvs,k,b,e,ey,eb,l⟩
 · subst ey
   obtain⟨z,hd,vs,rel,dd⟩:=dk_rd I.hok e;refine wpAny_in_of (kV_is ry) hd dd.mapOf ?_;rw[← (rel.val k).isSome_eq,← l];exact h _ (I.tok _)
 subst ey;cases (show u=Value.ref b from ry);obtain⟨z,hd,xs,rel,dd⟩:=dt_rd I.hok e;refine wpAny_in_heap (tupleKind_room_in1 hu) (key_of I.hok eb) hd dd ?_;have q:=(rel.val k).isSome_eq;rw[Option.isSome_map]at q;rw[← q,← l];exact h _ (I.tok _)
theorem d_notIn{Q:Value->Shared->Prop}(hu:A.units+1 < cLine)(I:Inv X pins σ H s)(g:DGet H a y o)(ry:RelV y u)(h:∀ s',Inv X pins σ H s'->Q (.bool (!o.isSome)) s') :
 wpAny (model X.prog X.w) A (compareOp .NotIn u (.ref a)) Q E s:=by
 rcases g with ⟨kvs,k,e,ey,l⟩ | ⟨kvs,k,b,e,ey,eb,l⟩
 · subst ey
   obtain⟨z,hd,vs,rel,dd⟩:=dk_rd I.hok e;refine wpAny_notIn_of (kV_is ry) hd dd.mapOf ?_;rw[← (rel.val k).isSome_eq,← l];exact h _ (I.tok _)
 subst ey;cases (show u=Value.ref b from ry);obtain⟨z,hd,xs,rel,dd⟩:=dt_rd I.hok e;refine wpAny_notIn_heap (tupleKind_room_in1 hu) (key_of I.hok eb) hd dd ?_;have q:=(rel.val k).isSome_eq;rw[Option.isSome_map]at q;rw[← q,← l];exact h _ (I.tok _)
theorem d_write{h':Heap}{t':Nat}{ob:HO}(I:Inv X pins σ H s)(mu:Mut (H a))(hs:Heap.SameBut a s.heap h')(he:∃ q,h'.get? a=some q)(new:ObjOk X.prog X.w (upd H a ob) h' a ob) :
 Inv X pins σ (upd H a ob) { s with heap:=h',toks:=t' }:=
 I.write (x:=a) (e:=a) mu (.inl rfl) (fun b q hb z=>(hs.2 b hb).trans z) he new
theorem dk_new{P:Program}{w:World}{H':Hp}{h':Heap}{kvs:List (Key×V)}{vs:List (Key×Value)}(z:kvs.length<=sizeLine)(hd:(a == sysModules)=false)(rel:KV kvs vs)(dd:h'.DictOf (mixKind P w) a vs) :
 ObjOk P w H' h' a (.dK kvs):=⟨z,hd,vs,rel,dd⟩
theorem d_setItem{H':Hp}{Q:Unit->Shared->Prop}(hu:A.units+1 < cLine)(I:Inv X pins σ H s)(g:DPut H a y v H')(ry:RelV y u)(rv:RelV v r)(h:∀ s',Inv X pins σ H' s'->Q () s') :
 wpAny (model X.prog X.w) A (setItem (.ref a) u r) Q E s:=by
 rcases g with ⟨kvs,k,e,ey,l,eH⟩ | ⟨kvs,k,b,e,ey,eb,l,eH⟩
 · subst ey eH
   obtain⟨z,hd,vs,rel,dd⟩:=dk_of I.hok e;have hz:vs.length<=sizeLine:=by rw[← rel.length];exact z
   have hl:(putK kvs k v).length<=sizeLine:=by have:=length_putK kvs k v;omega
   refine wpAny_setItem_pairs (hsz:=hz) (kV_is ry) dd fun h' dd' hs=>h _ ?_;have he:∃ q,h'.get? a=some q:=let⟨q,_,_,hq,_⟩:=dd';⟨q,hq⟩;exact d_write I (by rw[e];exact True.intro) hs he (dk_new hl hd (rel.put k rv) dd')
 subst ey eH;cases (show u=Value.ref b from ry);obtain⟨z,hd,xs,rel,dd⟩:=dt_of I.hok e;have hz:xs.length<=sizeLine:=by rw[← Paired.length rel];exact z
 have hl:(putK kvs k v).length<=sizeLine:=by have:=length_putK kvs k v;omega
 refine wpAny_setItem_heap (hsz:=hz) (tupleKind_room_in1 hu) (key_of I.hok eb) dd fun h' dd' hs=>h _ ?_;obtain⟨q,es,ep,hq,h2,h3,h4,_,h5⟩:=dd';refine d_write I (by rw[e];exact True.intro) hs ⟨q,hq⟩ ⟨hl,hd,_,(rel.put k eb rv).keeps fun c ys ec=>?_,q,es,ep,hq,h2,h3,h4,h5⟩
 rw[upd_ne (ne_of ec e (fun z=>nomatch z))];exact ec
end
section
variable{X:Cx}{pins:List (Addr×Obj)}{σ:St}{H:Hp}{s:Shared}{a:Addr}{kvs:List (Key×V)}{k:Key}{u:Value}{A:Around}{E:Value->Shared->Prop}
end
noncomputable def NoSl(i:Expr):Prop:=∀ ov iv,subscripted i false ov iv=operate [ov,iv] (getItem ov iv)
theorem subD_of{prog:Program}{w:World}{A:Around}{E:Value->Shared->Prop}{s:Shared}{env:Env}{value slice:Expr}{pos:Pos}{T id:String}{Q:Value->Shared->Prop}
 (hl:typeLookup (.type T) "__getitem__"=pure (some (.builtin id))) (hs:NoSl slice)
 (h:wpAny (model prog w) A (eval value env) (fun o s₁=>wpAny (model prog w) A (eval slice env) (fun i s₂=>s₂.TypeIs o T/\wpAny (model prog w) A (getItem o i) Q E s₂) E s₁) E s) :
 wpAny (model prog w) A (eval (.Subscript value slice pos) env) Q E s:=by
 refine Subscript_ (wpAny_mono h (fun o s₁ h₁=>wpAny_mono h₁ (fun i s₂ h₂=>?_) fun _ _ x=>x) fun _ _ x=>x);obtain⟨hT,h₂⟩:=h₂;unfold subscriptTail;refine wpAny_bind ?_;rw[getitemInPython_of_ne hT.not_modules];refine wpAny_bind (wpAny_specialOf hT hl ?_);have fin:wpAny (model prog w) A (subscripted slice false o i) (fun r s₃=>wpAny (model prog w) A (letTemporaryGo value o r >>= fun _=>pure r) Q E s₃) E s₂:=by
  rw[hs o i];exact wpAny_operating (wpAny_mono h₂ (fun r s₃ h₃=>wpAny_bind (wpAny_letTemporaryGo (wpAny_pure h₃))) fun _ _ x=>x)
 first
  | exact wpAny_pure (wpAny_bind fin)
  | exact wpAny_bind (wpAny_pure (wpAny_bind fin))
  | exact wpAny_bind fin
theorem dict_typeIs{X:Cx}{pins:List (Addr×Obj)}{σ:St}{H:Hp}{s:Shared}{a:Addr}{y:V}{o:Option V}(I:Inv X pins σ H s)(g:DGet H a y o):s.TypeIs (.ref a) "dict":=by
 rcases g with ⟨kvs,k,e,_,_⟩ | ⟨kvs,k,b,e,_,_,_⟩
 · obtain⟨_,_,vs,_,dd⟩:=dk_rd I.hok e
   exact dd.typeIs
 obtain⟨_,_,xs,_,dd⟩:=dt_rd I.hok e;exact dd.typeIs
noncomputable def tDGet(td ty:TE):TE:=fun σ H Q=>td σ H fun x H1=>ty σ H1 fun y H2=>∃ a v,x=.ref a/\DGet H2 a y (some v)/\Q v H2
noncomputable def tDIn(ty td:TE):TE:=fun σ H Q=>ty σ H fun y H1=>td σ H1 fun x H2=>∃ a o,x=.ref a/\DGet H2 a y o/\Q (.bl o.isSome) H2
noncomputable def tDNotIn(ty td:TE):TE:=fun σ H Q=>ty σ H fun y H1=>td σ H1 fun x H2=>∃ a o,x=.ref a/\DGet H2 a y o/\Q (.bl (!o.isSome)) H2
noncomputable def sDPut(td ty tv:TE):TS:=fun D σ H=>tv σ H fun v H1=>td σ H1 fun x H2=>ty σ H2 fun y H3=>∃ a H4,x=.ref a/\DPut H3 a y v H4/\D.nx σ H4
section
variable{X:Cx}{o i e value:Expr}{pos pos' tpos:Pos}{td ty tv:TE}
theorem pe_dget(hu:X.A.units+1 < cLine)(ho:PE X o td)(hi:PE X i ty)(hs:NoSl i):PE X (.Subscript o i pos) (tDGet td ty):=by
 intro pins s σ H Q I h;refine subD_of PySem.F.slot_dict_getitem.lookup hs (thn (ho pins s σ H _ I h) fun u s1 ⟨x,H1,I1,rx,q1⟩=>thn (hi pins s1 σ H1 _ I1 q1) fun iv s2 zz=>?_);obtain⟨y,H2,I2,ry,a,v,ex,g,q2⟩:=zz;subst ex;obtain rfl:u=Value.ref a:=rx;exact⟨dict_typeIs I2 g,d_getItem hu I2 g ry fun w' s3 I3 rw'=>⟨v,H2,I3,rw',q2⟩⟩
theorem pc_din(hu:X.A.units+1 < cLine)(hi:PE X i ty)(ho:PE X o td):PC X .In i o (tDIn ty td):=by
 intro pins s σ H Q I h;refine thn (hi pins s σ H _ I h) fun iv s1 ⟨y,H1,I1,ry,q1⟩=>thn (ho pins s1 σ H1 _ I1 q1) fun u s2 zz=>?_;obtain⟨x,H2,I2,rx,a,ov,ex,g,q2⟩:=zz;subst ex;obtain rfl:u=Value.ref a:=rx;exact d_in hu I2 g ry fun s3 I3=>⟨.bl ov.isSome,H2,I3,rfl,q2⟩
theorem pc_dnotin(hu:X.A.units+1 < cLine)(hi:PE X i ty)(ho:PE X o td):PC X .NotIn i o (tDNotIn ty td):=by
 intro pins s σ H Q I h;refine thn (hi pins s σ H _ I h) fun iv s1 ⟨y,H1,I1,ry,q1⟩=>thn (ho pins s1 σ H1 _ I1 q1) fun u s2 zz=>?_;obtain⟨x,H2,I2,rx,a,ov,ex,g,q2⟩:=zz;subst ex;obtain rfl:u=Value.ref a:=rx;exact d_notIn hu I2 g ry fun s3 I3=>⟨.bl (!ov.isSome),H2,I3,rfl,q2⟩
theorem ps_dput(hu:X.A.units+1 < cLine)(ho:PE X o td)(hi:PE X i ty)(hv:PE X value tv)(hs:swapsWith value (some (.Subscript o i pos')) pos.line X.env=pure false) :
 PS X (.Assign [.Subscript o i pos'] value pos) (sDPut td ty tv):=by
 intro pins s σ H D I h;refine wpAny_Assign_Subscript (thn (hv pins s σ H _ I h) fun r s1 ⟨v,H1,I1,rv,q1⟩=>thn (ho pins s1 σ H1 _ I1 q1) fun u s2 ⟨x,H2,I2,rx,q2⟩=>thn (hi pins s2 σ H2 _ I2 q2) fun iv s3 ⟨y,H3,I3,ry,a,H4,ex,g,q3⟩=>?_) hs;subst ex;obtain rfl:u=Value.ref a:=rx;exact d_setItem hu I3 g ry rv fun s4 I4=>⟨σ,H4,I4,q3⟩
end
theorem dk_empty{P:Program}{w:World}{H:Hp}(h:Heap)(hb:sysModules < h.objs.size):ObjOk P w H (h.push { cls:=.type "dict",data:=.dict #[] }) h.objs.size (.dK []):=
 ⟨Nat.zero_le _,beq_eq_false_iff_ne.mpr (Ne.symm (Nat.ne_of_lt hb)),[],.nil,Heap.DictOf.new h⟩
noncomputable def tDNewK:TE:=fun _ H Q=>∀ p,H p=none->Q (.ref p) (upd H p (.dK []))
section
variable{X:Cx}{pos:Pos}
theorem pe_dnewK:PE X (.Dict [] [] pos) tDNewK:=fun pins s σ H Q I h=>
 wpAny_Dict_empty ⟨.ref s.heap.objs.size,_,I.laid (a:=s.heap.objs.size) (o:=.dK []) (t':=s.toks) (fun _ _ q=>Heap.get?_push_of_some _ q) (Nat.le_refl _) (dk_empty s.heap I.big),rfl,h _ (I.hok.fresh (Nat.le_refl _))⟩
end
noncomputable def tPairs:List (TE×TE)->St->Hp->(List (V×V)->Hp->Prop)->Prop
 | [],_,H,Q=>Q [] H
 | (tk,tv)::r,σ,H,Q=>tk σ H fun x H1=>tv σ H1 fun y H2=>tPairs r σ H2 fun ps H3=>Q ((x,y)::ps) H3
noncomputable abbrev VV:List (V×V)->List (Value×Value)->Prop:=Paired fun p q=>RelV p.1 q.1/\RelV p.2 q.2
noncomputable def PPs(X:Cx)(pos:Pos)(keys:List (Option Expr))(values:List Expr)(trs:List (TE×TE)):Prop:=
 ∀(pins:List (Addr×Obj)) (s:Shared) (σ:St) (H:Hp) (Q:List (V×V)->Hp->Prop),Inv X pins σ H s->tPairs trs σ H Q ->
   wpAny (model X.prog X.w) X.A (evalPairs (pairTrees keys values X.env pos)) (fun vs s'=>∃ ps H',Inv X pins σ H' s'/\VV ps vs/\Q ps H') X.xe s
theorem pps_nil{X:Cx}{pos:Pos}:PPs X pos [] [] []:=fun pins s σ H Q I h=>pairTrees_nil_walk ⟨[],H,I,.nil,h⟩
theorem pps_cons{X:Cx}{pos:Pos}{k v:Expr}{ks:List (Option Expr)}{vs:List Expr}{tk tv:TE}{trs:List (TE×TE)}(hk:PE X k tk)(hv:PE X v tv)(hr:PPs X pos ks vs trs) :
 PPs X pos (some k::ks) (v::vs) ((tk,tv)::trs):=fun pins s σ H Q I h=>
 pairTrees_cons_walk (thn (hk pins s σ H _ I h) fun u s1 ⟨x,H1,I1,rx,q1⟩=>thn (hv pins s1 σ H1 _ I1 q1) fun w2 s2 ⟨y,H2,I2,ry,q2⟩=>
  thn (hr pins s2 σ H2 _ I2 q2) fun ws s3 ⟨ps,H3,I3,rel,q3⟩=>⟨(x,y)::ps,H3,I3,.cons ⟨rx,ry⟩ rel,q3⟩)
noncomputable def mergeK(kvs more:List (Key×V)):List (Key×V):=more.foldl (fun acc kv=>putK acc kv.1 kv.2) kvs
theorem KV.merge:∀{more:List (Key×V)}{rs:List (Key×Value)}{kvs:List (Key×V)}{vs:List (Key×Value)},KV more rs->KV kvs vs->KV (mergeK kvs more) (merged vs rs):=by
 intro more rs kvs vs r;unfold KV at r
 induction r generalizing kvs vs with
 | nil=>intro q;exact q
 | @cons p q ps qs h t ih=>
   intro r0;have e:KV (putK kvs p.1 p.2) (stored vs q.1 q.2):=by
    have:=r0.put p.1 h.2;rw[← h.1];exact this
   exact ih e
theorem length_mergeK:∀(more kvs:List (Key×V)),(mergeK kvs more).length<=kvs.length+more.length
 | [],kvs=>by show kvs.length<=kvs.length+0;omega
 | p::r,kvs=>by
   have h1:=length_mergeK r (putK kvs p.1 p.2);have h2:=length_putK kvs p.1 p.2;show(mergeK (putK kvs p.1 p.2) r).length<=_;rw[List.length_cons];omega
theorem carries_of{P:Program}{w:World}:∀{kvs:List (Key×V)}{ws:List (Value×Value)},VV (kvs.map fun kv=>(kV kv.1,kv.2)) ws -> ∃ rs,Carries (mixKind P w) ws rs/\KV kvs rs
 | [],_,r=>by rw[List.map_nil]at r;cases r;exact⟨[],True.intro,.nil⟩
 | p::kvs,_,r=>by
   rw[List.map_cons]at r;cases r with
   | @cons a b as bs h t=>
     obtain⟨rs,c,q⟩:=carries_of (P:=P) (w:=w) t;obtain⟨b1,b2⟩:=b;exact⟨(p.1,b2)::rs,⟨kV_is h.1,rfl,c⟩,.cons ⟨rfl,h.2⟩ q⟩
noncomputable def tDisp(trs:List (TE×TE)):TE:=fun σ H Q=>∀ p,H p=none->tPairs trs σ (upd H p (.dK [])) fun ps H2=>H2 p=some (.dK []) /\ ∃ kvs:List (Key×V),ps=kvs.map (fun kv=>(kV kv.1,kv.2))/\kvs.length<=15/\Q (.ref p) (upd H2 p (.dK (mergeK [] kvs)))
theorem pe_disp{X:Cx}{pos:Pos}{keys:List (Option Expr)}{values:List Expr}{trs:List (TE×TE)}(h:PPs X pos keys values trs)(hall:keys.all (·.isSome)=true)(hl:keys.length=values.length)(h0:keys≠[])
 (h15:keys.length<=15):PE X (.Dict keys values pos) (tDisp trs):=by
 intro pins s σ H Q I q;have hn:=I.hok.fresh (Nat.le_refl s.heap.objs.size);have I1:=I.laid (a:=s.heap.objs.size) (o:=.dK []) (h':=s.heap.push { cls:=.type "dict",data:=.dict #[] }) (t':=s.toks) (fun _ _ q=>Heap.get?_push_of_some _ q) (Nat.le_refl _) (dk_empty s.heap I.big);refine wpAny_Dict_walk (knd:=mixKind X.prog X.w) hall hl h0 h15 (thn (h pins _ σ _ _ I1 (q _ hn)) fun ws s2 zz=>?_);obtain⟨ps,H2,I2,rel,e,kvs,ep,lk,q2⟩:=zz;subst ep;obtain⟨rs,c,rk⟩:=carries_of (P:=X.prog) (w:=X.w) rel;obtain⟨z,hd,vs0,r0,dd⟩:=dk_of I2.hok e;cases r0;refine⟨rs,c,dd,fun h' dd' hs=>⟨.ref s.heap.objs.size,_,?_,rfl,q2⟩⟩;have hz:(mergeK [] kvs).length<=sizeLine:=by
  have h1:=length_mergeK kvs [];rw[List.length_nil]at h1;rw[sizeLine_eq];omega
 have he:∃ q,h'.get? s.heap.objs.size=some q:=let⟨q,_,_,hq,_⟩:=dd';⟨q,hq⟩;exact d_write I2 (by rw[e];exact True.intro) hs he (dk_new hz hd (rk.merge .nil) dd')
structure M1(X:Cx)(o:Expr)(m:Str)(apos:Pos)(e:Expr)(cpos:Pos):Prop where
 base:attributeBase o m X.env (eval o X.env)=eval o X.env
 few:((backTo cpos (starEach [e] X.env)).all (fun x=>!x.1) && (backToKw cpos (keywordEach [] X.env)).all (fun x=>x.1.isSome)
  && decide (([e]:List Expr).length+([]:List Keyword).length+(if([]:List Keyword).isEmpty then 0 else 1) < 30))=true
 line:(apos.endLine == cpos.line)=true
 trees:backTo cpos (starEach [e] X.env)=[(false,eval e X.env)]
noncomputable def IsD(H:Hp)(a:Addr):Prop:=(∃ kvs,Rd H a (.dK kvs)) ∨ ∃ kvs,Rd H a (.dT kvs)
theorem isD_at{X:Cx}{pins:List (Addr×Obj)}{σ:St}{H:Hp}{s:Shared}{a:Addr}(I:Inv X pins σ H s)(d:IsD H a) :
 s.TypeIs (.ref a) "dict" /\ (∀ b,Value.ref a=.ref b -> ∃ ob,s.heap.get? b=some ob/\ob.dict=none)/\(a == sysModules)=false:=by
 rcases d with ⟨kvs,e⟩ | ⟨kvs,e⟩
 · obtain⟨_,hd,vs,_,dd⟩:=dk_rd I.hok e
   refine⟨dd.typeIs,fun b q=>?_,hd⟩;cases q;obtain⟨ob,_,_,h1,h2,_⟩:=dd;exact⟨ob,h1,h2.2.1⟩
 obtain⟨_,hd,xs,_,dd⟩:=dt_rd I.hok e;refine⟨dd.typeIs,fun b q=>?_,hd⟩;cases q;obtain⟨ob,_,_,h1,h2,_⟩:=dd;exact⟨ob,h1,h2.2.1⟩
section
variable{X:Cx}{pins:List (Addr×Obj)}{σ:St}{H:Hp}{s:Shared}{a:Addr}{y d:V}{u r:Value}{o:Option V}{A:Around}{E:Value->Shared->Prop}
theorem d_get1{Q:Value->Shared->Prop}(hu:A.units+1 < cLine)(I:Inv X pins σ H s)(g:DGet H a y o)(ry:RelV y u)(h:∀ w' s',Inv X pins σ H s'->RelV (o.getD .non) w'->Q w' s') :
 wpAny (model X.prog X.w) A (call (.builtin "dict.get") [.ref a,u]) Q E s:=by
 rcases g with ⟨kvs,k,e,ey,l⟩ | ⟨kvs,k,b,e,ey,eb,l⟩
 · subst ey
   obtain⟨z,hd,vs,rel,dd⟩:=dk_rd I.hok e;refine call_meetsIn PySem.F.slot_dict_get dd.typeIs PySem.F.entry_dict_get (PySem.F.args_dict_get_2 _ _) (meets_dict_get (mixKind X.prog X.w) a (kV_is ry) hd) ⟨_,dd.mapOf,h _ _ (I.tok _) ?_⟩;rw[l];exact(rel.val k).getD rfl
 subst ey;cases (show u=Value.ref b from ry);obtain⟨z,hd,xs,rel,dd⟩:=dt_rd I.hok e;refine call_meetsIn PySem.F.slot_dict_get dd.typeIs PySem.F.entry_dict_get (PySem.F.args_dict_get_2 _ _) (meetsH_dict_get (tupleKind (mixKind X.prog X.w)) a b hd) ⟨tupleKind_room_in1 hu,k,xs,key_of I.hok eb,dd,h _ _ (I.tok _) ?_⟩;rw[l];exact(rel.val k).getD rfl
end
noncomputable def tDGet1(td ty:TE):TE:=fun σ H Q=>td σ H fun x H1=>∃ a,x=.ref a/\IsD H1 a/\ty σ H1 fun y H2=>∃ o,DGet H2 a y o/\Q (o.getD .non) H2
section
variable{X:Cx}{o e f:Expr}{apos cpos:Pos}{td ty tx:TE}
theorem pe_dget1(hu:X.A.units+1 < cLine)(ho:PE X o td)(he:PE X e ty)(m:M1 X o "get" apos e cpos):PE X (.Call (.Attribute o "get" apos) [e] [] cpos) (tDGet1 td ty):=by
 intro pins s σ H Q I h;refine wpAny_Call_method m.base m.few m.line PySem.F.plainAttrs_dict PySem.F.slot_dict_get PySem.F.type_dict_get (thn (ho pins s σ H _ I h) fun u s1 zz=>?_);obtain⟨x,H1,I1,rx,a,ex,d,q1⟩:=zz;subst ex;obtain rfl:u=Value.ref a:=rx;obtain⟨t1,t2,_⟩:=isD_at I1 d;refine⟨t1,t2,?_⟩;rw[m.trees];refine Calls.callWith_builtin rfl (Calls.evalArgs_plain (Calls.spliced_cons (thn (he pins s1 σ H1 _ I1 q1) fun iv s2 ⟨y,H2,I2,ry,ov,g,q2⟩=>Calls.spliced_nil ?_)));exact d_get1 hu I2 g ry fun w' s3 I3 rw'=>⟨_,H2,I3,rw',q2⟩
end
section
variable{X:Cx}{pins:List (Addr×Obj)}{σ:St}{H:Hp}{s:Shared}{a:Addr}{kvs:List (Key×V)}{A:Around}{E:Value->Shared->Prop}
end
section
variable{X:Cx}{pins:List (Addr×Obj)}{σ:St}{H:Hp}{s:Shared}{a:Addr}{y:V}{u:Value}{A:Around}{E:Value->Shared->Prop}
end
end L2
namespace Att
open PySem PySem.W PySem.Calls PyProof.Rows
theorem ints_of_wellAll{P:Params}{h:Heap}:∀(ns:List Int) (vs:List Value),WellAll P h vs (ns.map WData.int)->IntsAre vs ns:=by
 intro ns
 induction ns with
 | nil=>
   intro vs w;rw[List.map_nil]at w;cases w;exact .nil
 | cons n ns ih=>
   intro vs w;rw[List.map_cons]at w;cases w with
   | cons a b=>
     cases a;exact .cons _ _ (ih _ b)
theorem script_of{l:OpenLaw}{n:Nat}(hn:l.most=some n){P:Params}{h:Heap}{args:List WData}{vals:List Value}
 (hpre:l.row.toRowW.claim.pre args=true) (hwl:WellAll P h vals args) :
 ∃ a vs ns,vals=[Value.ref a]/\args=[WData.list (ns.map WData.int)]/\h.get? a=some { cls:=.type "list",data:=.seq vs.toArray } /\ IntsAre vs ns/\ns.length<=n:=by
 have hsh:WShape.hasAll [] args [.list .int]=true:=(pre_splitW hpre).1;have hc:l.pre.holds [] { args:=args }=true:=(pre_splitW hpre).2;obtain⟨d,r,rfl,h1,h2⟩:=hasAllW_cons hsh;obtain rfl:=hasAllW_nil h2;obtain⟨xs,rfl,h3⟩:=hasW_list h1;obtain⟨ns,rfl⟩:=items_int h3;have hlen:ns.length<=n:=by
  unfold OpenLaw.pre at hc;have h4:(WTm.not (.lt (.lit (.int (n:Int))) (.len (.arg 0)))).holds [] { args:=[.list (ns.map .int)] }=true:=by
   have h4:=(holds_andW hc).1;rw[hn]at h4;exact h4
  have h5:=condW_of h4 (w_not (w_lt w_lit (w_len_list (w_arg rfl))));rw[List.length_map]at h5;refine Nat.le_of_not_lt fun q=>?_;have q':(n:Int) < ((ns.length:Nat):Int):=by omega
  first
   | (rw[decide_eq_true q']at h5;exact absurd h5 (by decide))
   | (simp at h5;omega)
 cases hwl with
 | cons w1 w2=>
   cases w2;cases w1 with
   | list ho hall=>exact⟨_,_,ns,rfl,rfl,ho,ints_of_wellAll ns _ hall,hlen⟩
theorem post_true(l:OpenLaw)(args:List WData):l.row.toRowW.claim.post args (.bool true) args=true:=
 postW_of (r:=l.row.toRowW) (X:=(true == true))
  (show WShape.has [] (.bool true) .bool=true by first | rfl | decide | simp[WShape.has,WShape.arms,WShape.armsAll])
  (show(WTm.eq .res (.lit (.bool true))).value [] { args:=args,res:=some (.bool true),after:=args }=some (.bool (true == true))from w_eq_bool (w_res rfl) w_lit) rfl
theorem attach_call{l:OpenLaw}{n:Nat}{q:Program}{loose:List Str}{XP:(Str->Option Value)->Heap->Prop}{YP:World->Heap->Prop}{d:DefRec}
 (hn:l.most=some n) (hdf:d.params.defaults=[])
 (call:∀(w:World) (s₀ s₁:Shared) (mg mb:Str->Option Value) (fa:Addr) (o:Obj) (pm cd doc:Value) (a:Addr) (vs:List Value) (ns:List Int),
  Ground q loose [] XP w s₀ mg mb s₁.heap->YP w s₁.heap ->
  s₁.heap.get? fa=some o->o.data=.func (docDef d.name d.params d.body d.scope pm cd doc)->s₁.heap.CodeRec cd d.name->mg d.name=some (.ref fa) ->
  s₁.heap.get? a=some { cls:=.type "list",data:=.seq vs.toArray } -> IntsAre vs ns->ns.length<=n->s₁.gens=#[] ->
  codeAny (model l.prog w) callerA (.call (.ref fa) ⟨[.ref a],[]⟩) (fun r s'=>r=.ok (.ret (.bool true))/\OldK s₁.heap s'.heap/\s'.os=s₁.os/\AllBare s'.gens) s₁) :
 WalkO q loose XP YP l.row.toRowW d [] (fun f vs=>PySem.call f vs):=by
 intro w s₀ s₁ mg mb G Y fa o pm cd doc dV kV ho hd hcd hD hmg hg args vals as hpre hlay hrd hwl hlo;obtain rfl:dV=.none:=Dflts.none hD hdf;obtain rfl:kV=.none:=Dflts.noKw hD;obtain⟨a,vs,ns,rfl,rfl,hobj,hints,hlen⟩:=script_of hn hpre hwl;refine enter_call (codeAny_mono (call w s₀ s₁ mg mb fa o pm cd doc a vs ns G Y ho (fd_plain hd) hcd hmg hobj hints hlen hg) fun r s' hq=>?_);obtain⟨rfl,h2,h3,h4⟩:=hq;exact⟨.inl ⟨.bool true,.bool true,[],rfl,fun _=>rfl,.bool true,post_true l _,fun _=>⟨List.Pairwise.nil,fun _ hm=>(nomatch hm)⟩⟩,h2,h3,h4⟩
section
variable{prog:Program}{w:World}{A:Around}{E:Value->Shared->Prop}{s:Shared}{K:Frag}
end
end Att
namespace L2
open PySem PySem.Spec PyProof.Rows
theorem vals_ints:∀{vs:List Value}{ns:List Int},IntsAre vs ns->Vals (ns.map V.int) vs
 | _,_,.nil=>.nil
 | _,_,.cons n t h=>.cons ⟨t,rfl⟩ (vals_ints h)
noncomputable def Only(H:Hp):Prop:=∀ b,H b=none ∨ ∃ o xs,H b=some (.frz o (.lst xs))
theorem law_call{P:Program}{w:World}{K:W.Frag}{mg mb:Str->Option Value}{CX:CXT}{k:Nat}{fa a:Addr}{fd:FuncData}{x:Str}{sp:Sp}{s₁:Shared}{vs:List Value}{ns:List Int}
 (KX:K.In s₁.heap) (hns:s₁.heap.Ns mainGlobals mg) (hb:s₁.heap.Ns builtinsNs mb) (hbb:∀ x:Str,x ≠ "__name__" -> mb x=bootBuiltins x) (hlim:s₁.heap.NoLimit) (hg:s₁.gens=#[])
 (ha:s₁.heap.get? a=some { cls:=.type "list",data:=.seq vs.toArray }) (hi:IntsAre vs ns) (hl:ns.length<=sizeLine) (hr:Room k callerA)
 (F:∀ base:Heap,K.In base->base.Ns mainGlobals mg->FnOk P w K mg base CX k fa fd [x] sp) (hbind:∀(s:Shared) (u:Value),BindsTo s fd ⟨[u],[]⟩ [(x,u)])
 (hsp:∀ H:Hp,Only H->SqL K H a (ns.map V.int)->sp [.ref a] H (fun v _=>v=.bl true) fun _ _ _=>False)
 (hCX:∀ H e s',CX [] H s₁ (fun _ _ _=>False) e s'->False) :
 codeAny (model P w) callerA (.call (.ref fa) ⟨[.ref a],[]⟩) (fun r s'=>r=.ok (.ret (.bool true))/\OldK s₁.heap s'.heap/\s'.os=s₁.os/\AllBare s'.gens) s₁:=by
 have rv:=vals_ints hi;have lenV:=hi.length
 -- from an abstract heap in which nothing but the script may be tracked
 have core:∀ H:Hp,Only H->SqL K H a (ns.map V.int)->HOk P w H s₁.heap->(∀ b,H b≠none->b=a)->(H a≠none->K.lookup a=none) ->
  codeAny (model P w) callerA (.call (.ref fa) ⟨[.ref a],[]⟩) (fun r s'=>r=.ok (.ret (.bool true))/\OldK s₁.heap s'.heap/\s'.os=s₁.os/\AllBare s'.gens) s₁:=by
  intro H hO hS hok hA hK;have base_of:∀{b:Addr}{o:Obj},s₁.heap.get? b=some o->H b=none->(hidT s₁.heap H).get? b=some o:=fun e n=>hidT_get e n;have noA:∀{b:Addr}{o:Obj}{es:Array DictEntry}{ep:Nat},s₁.heap.get? b=some o->o.data=.dict es ep->H b=none:=fun {b o es ep} e d=>by
   cases q:H b with
   | none=>rfl
   | some u=>
     have e':b=a:=hA b (by rw[q];simp)
     subst e';rw[ha]at e;cases e;have d':Data.seq vs.toArray _=Data.dict es ep:=d;cases d'
  have nsK:∀{b:Addr}{m:Str->Option Value},s₁.heap.Ns b m->(hidT s₁.heap H).Ns b m:=fun {b m} ⟨o,es,ep,e,d,r⟩=>⟨o,es,ep,base_of e (noA e d),d,r⟩;have hKb:K.In (hidT s₁.heap H):=fun b o e=>base_of (KX b o e) (by
   cases q:H b with
   | none=>rfl
   | some u=>
     have e':b=a:=hA b (by rw[q];simp)
     subst e';rw[hK (by rw[q];simp)]at e;cases e)
  have hM:Mod K mg (hidT s₁.heap H):=⟨hKb,nsK hns,⟨mb,nsK hb,hbb⟩,let⟨mc,h1,h2⟩:=hlim;⟨mc,nsK h1,h2⟩⟩;have e0:Env0 P w K mg (hidT s₁.heap H) callerA [] s₁ H:=⟨rfl,hM,fun b o e=>of_hidT e,Nat.le_of_eq (hidT_size _ _),trivial,fun b hb=>absurd (show b∈([]:List Addr)from hb) (by simp),hok,.of_eq hg⟩
  refine codeAny_mono ((F _ hKb (nsK hns)).run callerA [] s₁ H ⟨[.ref a],[]⟩ [.ref a] [.ref a] _ _ hr e0 (hbind s₁ (.ref a)) (.cons rfl .nil) (hsp H hO hS)) fun r s' h=>?_;cases r with
  | error e=>exact(hCX H e s' h).elim
  | ok fl=>
    cases fl with
    | next=>exact False.elim h
    | brk=>exact False.elim h
    | cont=>exact False.elim h
    | ret u=>
      obtain⟨v,H',os,bare,un,hok',r',q⟩:=h;have q':v=.bl true:=q;subst q';obtain rfl:u=Value.bool true:=r';refine⟨rfl,OldK.of_keep fun b o e=>?_,os,bare⟩;cases q:H b with
      | none=>exact un.keep b o e q (by intro z;exact absurd (show b∈([]:List Addr)from z) (by simp)) (by simp)
      | some u=>
        rcases hO b with z | ⟨ob,xs,z⟩
        · rw[q]at z;cases z
        have z2:=un.frzs b ob _ z;obtain⟨e1,_⟩:=hok b _ z;obtain⟨e2,_⟩:=hok' b _ z2;rw[e]at e1;cases e1;exact e2
 cases hk:K.lookup a with
 | some o=>
   -- the script is one of the module's own objects
   have e:=KX a o hk;rw[ha]at e;cases e;refine core (fun _=>none) (fun _=>.inl rfl) (.inr ⟨_,vs.toArray,_,hk,rfl,rfl,rfl,by rw[List.size_toArray,lenV];exact hl,by simpa using rv⟩) (fun b u z=>by have z':(none:Option HO)=some u:=z;cases z') (fun b z=>absurd rfl z) fun z=>absurd rfl z
 | none=>
   refine core (fun b=>if b=a then some (.frz { cls:=.type "list",data:=.seq vs.toArray } (.lst (ns.map V.int)))else none) (fun b=>?_) (.inl (.inr ⟨{ cls:=.type "list",data:=.seq vs.toArray },if_pos rfl⟩)) (fun b u z=>?_) (fun b z=>?_) fun _=>hk
   · by_cases hb:b=a
     · exact .inr ⟨_,_,if_pos hb⟩
     exact .inl (if_neg hb)
   · by_cases hb:b=a
     · have z':=(if_pos hb).symm.trans z
       cases z';subst hb;exact⟨ha,by rw[List.length_map];exact hl,vs,_,rv,ha⟩
     have z':=(if_neg hb).symm.trans z;cases z'
   by_cases hb:b=a
   · exact hb
   exact absurd (if_neg hb) z
end L2
namespace L2
open PySem PySem.Spec PyProof.Rows
theorem walk_of{l:W.OpenLaw}{n k:Nat}{q:Program}{loose:List Str}{XP:(Str->Option Value)->Heap->Prop}{YP:World->Heap->Prop}{d:DefRec}{K:Params->W.Frag}{CX:World->CXT}{sp:World->Sp}{x:Str}
 (hn:l.most=some n) (hn2:n<=sizeLine) (hdf:d.params.defaults=[]) (hr:Room k callerA)
 (hY:∀(w:World) (h:Heap),YP w h->(K w.params).In h)
 (F:∀(w:World) (mg:Str->Option Value) (fa:Addr) (h:Heap),(K w.params).In h->h.Ns mainGlobals mg->mg d.name=some (.ref fa) ->
  ∃ fd:FuncData,(∀(s:Shared) (u:Value),BindsTo s fd ⟨[u],[]⟩ [(x,u)]) /\
    ∀ base:Heap,(K w.params).In base->base.Ns mainGlobals mg->FnOk l.prog w (K w.params) mg base (CX w) k fa fd [x] (sp w))
 (hsp:∀(w:World) (H:Hp) (a:Addr) (ns:List Int),ns.length<=n->Only H->SqL (K w.params) H a (ns.map V.int)->sp w [.ref a] H (fun v _=>v=.bl true) fun _ _ _=>False)
 (hCX:∀(w:World) (H:Hp) (s:Shared) (e:Value) (s':Shared),CX w [] H s (fun _ _ _=>False) e s'->False) :
 W.WalkO q loose XP YP l.row.toRowW d [] (fun f vs=>PySem.call f vs):=by
 refine Att.attach_call hn hdf fun w s₀ s₁ mg mb fa o pm cd doc a vs ns G Y ho hd hcd hmg hobj hints hlen hg=>?_;have KX:=hY w _ Y;obtain⟨fd,hb,hF⟩:=F w mg fa _ KX G.T.g hmg;exact law_call KX G.T.g G.T.b G.T.builtins G.T.nolimit hg hobj hints (Nat.le_trans hlen hn2) hr hF hb (fun H hO hS=>hsp w H a ns hlen hO hS) fun H e s'=>hCX w H s₁ e s'
end L2
/- THE LAST THEOREM (shape;LID,My.* are yours):
   My.Adr: a structure of the addresses that your layer names (classes,functions);My.Txt K t: a structure (Prop) of the equations over K;
   My.txt_mk:{K}{implicit addresses ..} (e1:nsIn K mainGlobals "law"=some (some (.ref f))) (e2:K.lookup f=some ⟨oc,od,.func (fnOf "law" "law" params body scope dV kV doc pm an cdv ct),sl⟩) (e3:codeIn K cdv "law"=true) ..:∃ t,My.Txt K t
set_option maxRecDepth 100000 in
set_option maxHeartbeats 0 in
theorem PySem.Challenge.cw_LID_holds : PySem.Challenge.rw_LID.Holds := by
 w_on;o_law;k_head;(case hw=>w_witness2)
 k_fill
 refine L2.walk_of (l:=PySem.Challenge.rw_LID) (n:=63) (k:=40) (x:="script") (CX:=fun w=>..) (sp:=fun _=>My.sp_law) rfl (by decide) rfl ⟨rfl,by decide,by decide⟩ (fun w h Y=>W.kIn_of Y) ?F ?S ?C
 case F=>
  intro w mg fa h KX G hmg;have T:∃ t,My.Txt (L2.KOf KX) t:=by
   dsimp only[L2.KOf]                          -- K must stand as «<heap const> w.params» for k_is
   refine' My.txt_mk ?e1 ?e2 ?e3 ..
   (case e1=>W.k_is)                    -- in the order: a name->its address->its object->its parts
   (case e2=>W.k_is)
   ..
  obtain⟨t,T⟩:=T;have e0:=hmg.symm.trans (W.mg_of KX G T.law);cases e0                                       -- fa is the law's own address;exact⟨_,fun s u=>.of_eq rfl,fun base kb nb=>My.law_fn T kb nb⟩     -- if «.of_eq rfl» comes too early: refine' ⟨_,?b,fun base kb nb=>My.law_fn T kb nb⟩;exact fun s u=>.of_eq rfl
 case S=>exact fun w H a ns hl hO hS=>..
 case C=>exact ..
(the tactic k_is has no namespace: write k_is) -/
namespace L2
open PySem PySem.Spec PyProof.Rows
noncomputable def inClass(s:Stmt)(j:Nat):Stmt:=match s with
 | .ClassDef _ _ _ body _ _ _ _ _ _ _=>body.getD j (.Pass ⟨0,0,0,0⟩)
 | _=>.Pass ⟨0,0,0,0⟩
noncomputable def defArgs(s:Stmt):Arguments:=match s with
 | .FunctionDef _ a _ _ _ _ _ _ _ _=>a
 | _=>{ posonlyargs:=[],args:=[],vararg:=none,kwonlyargs:=[],kw_defaults:=[],kwarg:=none,defaults:=[] }
noncomputable def defBody(s:Stmt):List Stmt:=match s with
 | .FunctionDef _ _ b _ _ _ _ _ _ _=>b
 | _=>[]
noncomputable def defScope(s:Stmt):Scope:=match s with
 | .FunctionDef _ _ _ _ _ _ sc _ _ _=>sc
 | _=>{ kind:=.function,names:=[],isGenerator:=false,isCoroutine:=false }
noncomputable abbrev CX0:CXT:=fun _ _ _ _ _ _=>False
noncomputable abbrev E0:XK:=fun _ _ _=>False
theorem pass0{X:Cx}:Passes CX0 X E0:=fun _ _ _ _ _ _ _ h=>h.elim
structure Fun(K:W.Frag)(x qual:Str)(st:Stmt)(f:Addr)(fd:FuncData):Prop where
 ex:∃(oc:Value) (od:Option Addr) (kV doc pm:Value) (an:Option Addr) (cdv ct:Value) (osl:Array (Option Value)),
  fd=W.fnOf x qual (defArgs st) (defBody st) (defScope st) .none kV doc pm an cdv ct/\K.lookup f=some ⟨oc,od,.func fd,osl⟩/\W.codeIn K cdv qual=true
 kp:W.keepIn K (.ref f)=true
section
variable{P:Program}{w:World}{K:W.Frag}{mg:Str->Option Value}{base:Heap}
theorem Fun.ok{x qual:Str}{st:Stmt}{f:Addr}{fd:FuncData}{N ps:List Str}{k:Nat}{sp:Sp}(F:Fun K x qual st f fd)(S:FnScope N ps (defScope st))(len:∀ vs H Q E,sp vs H Q E->vs.length=ps.length)
 (hbody:∀(cdv:Value) (A:Around) (outer:List Env) (s:Shared) (H:Hp) (vs:List V) (Q:VK) (E:XK),Room k (A.deeper (envOfC qual (defScope st) s.heap.objs.size f cdv))->sp vs H Q E ->
  ∃ t,PSs (cxOf CX0 P w K mg base N qual (defScope st) f cdv A outer s H E).nox (defBody st) t/\t { nx:=fun _ H'=>Q .non H',rt:=Q } (start N vs) H):FnOk P w K mg base CX0 (k+1) f fd ps sp:=by
 obtain⟨oc,od,kV,doc,pm,an,cdv,ct,osl,rfl,lk,hcd⟩:=F.ex;refine fn_of lk hcd S len fun A outer s H vs Q E hr hsp=>?_;obtain⟨t,h,q⟩:=hbody cdv A outer s H vs Q E hr hsp;exact⟨t,h.nox,q⟩
theorem Fun.binds{x qual:Str}{st:Stmt}{f:Addr}{fd:FuncData}{ps:List Str}(F:Fun K x qual st f fd)
 (h:∀(kV doc pm:Value) (an:Option Addr) (cdv ct:Value) (us:List Value),us.length=ps.length->bindArgs (W.fnOf x qual (defArgs st) (defBody st) (defScope st) .none kV doc pm an cdv ct) ⟨us,[]⟩=pure (ps.zip us)):Binds K fd ps []:=by
 obtain⟨oc,od,kV,doc,pm,an,cdv,ct,osl,rfl,lk,hcd⟩:=F.ex;exact .all (h kV doc pm an cdv ct)
theorem fun_mk{x qual:Str}{st:Stmt}{f:Addr}{oc:Value}{od an:Option Addr}{osl:Array (Option Value)}{kV doc pm cdv ct:Value}(l:K.lookup f=some ⟨oc,od,.func (W.fnOf x qual (defArgs st) (defBody st) (defScope st) .none kV doc pm an cdv ct),osl⟩)
 (c:W.codeIn K cdv qual=true) (k:W.keepIn K (.ref f)=true):Fun K x qual st f (W.fnOf x qual (defArgs st) (defBody st) (defScope st) .none kV doc pm an cdv ct):=⟨⟨oc,od,kV,doc,pm,an,cdv,ct,osl,rfl,l,c⟩,k⟩
end
theorem hu_of{A:Around}{k:Nat}(hr:Room k A):A.units+1 < cLine:=Nat.lt_of_le_of_lt (Nat.add_le_add_left (by decide:1<=64) _) hr.units
section
variable{X:Cx}
end
theorem iteF{A B:Prop}(h:B):if false=true then A else B:=by
 rw[if_neg Bool.false_ne_true];exact h
theorem iteT{A B:Prop}(h:A):if true=true then A else B:=by
 rw[if_pos rfl];exact h
theorem ite2{c A B:Prop}[Decidable c](h1:c->A)(h2:¬ c->B):if c then A else B:=by
 by_cases h:c
 · rw[if_pos h]
   exact h1 h
 rw[if_neg h];exact h2 h
theorem iteNS{c A B:Prop}[Decidable c](hc:c)(h:B):if(!decide c)=true then A else B:=by
 rw[decide_eq_true hc];exact iteF h
noncomputable def Same(H H':Hp):Prop:=∀ b o,H b=some o->H' b=some o
theorem Same.refl(H:Hp):Same H H:=fun _ _ h=>h
theorem Same.trans{H H1 H2:Hp}(a:Same H H1)(b:Same H1 H2):Same H H2:=fun c o h=>b c o (a c o h)
theorem Same.free{H H':Hp}(e:Same H H'){l:Addr}(h:H' l=Option.none):H l=Option.none:=by
 cases q:H l with
 | none=>rfl
 | some o=>
   rw[e l o q]at h;cases h
theorem Same.seq{K:W.Frag}{H H':Hp}{a:Addr}{xs:List V}(e:Same H H')(h:SqL K H a xs):SqL K H' a xs:=by
 rcases h with (h | ⟨o,h⟩) | h
 · exact .inl (.inl (e _ _ h))
 · exact .inl (.inr ⟨o,e _ _ h⟩)
 exact .inr h
section
variable{κ:Type}[DecidableEq κ]
theorem nd_snoc:∀{l:List κ}{k:κ},l.Nodup -> ¬ k∈l->(l++[k]).Nodup
 | [],k,_,_=>by simp
 | a::r,k,h,hk=>by
   obtain⟨h1,h2⟩:=List.nodup_cons.mp h;show(a::(r++[k])).Nodup;refine List.nodup_cons.mpr ⟨fun m=>?_,nd_snoc h2 fun m=>hk (List.mem_cons.mpr (Or.inr m))⟩;rcases List.mem_append.mp m with q | q
   · exact h1 q
   exact hk (List.mem_cons.mpr (Or.inl (List.mem_singleton.mp q).symm))
end
end L2
namespace SW
open PySem PySem.Spec PyProof.Rows L2
theorem b_int:bootBuiltins "int"=some (.type "int"):=by decide +kernel
theorem b_bool:bootBuiltins "bool"=some (.type "bool"):=by decide +kernel
theorem b_tuple:bootBuiltins "tuple"=some (.type "tuple"):=by decide +kernel
theorem b_isinstance:bootBuiltins "isinstance"=some (.builtin "isinstance"):=by decide +kernel
theorem b_len:bootBuiltins "len"=some (.builtin "len"):=by decide +kernel
structure Bx(p:Prop):Prop where
 out:p
structure Fn(P:Program)(w:World)(K:W.Frag)(mg:Str->Option Value)(base:Heap)(x:Str)(k:Nat)(ps:List Str)(sp:Sp):Prop where
 ex:∃(f:Addr) (fd:FuncData),FnOk P w K mg base CX0 k f fd ps sp/\mg x=some (.ref f)/\W.keepIn K (.ref f)=true/\Binds K fd ps []
structure Dfn(K:W.Frag)(mg:Str->Option Value)(x:Str)(st:Stmt)(ps:List Str):Prop where
 ex:∃(f:Addr) (fd:FuncData),Fun K x x st f fd/\mg x=some (.ref f)/\Binds K fd ps []
theorem Dfn.fn{P:Program}{w:World}{K:W.Frag}{mg:Str->Option Value}{base:Heap}{x:Str}{st:Stmt}{N ps:List Str}{k:Nat}{sp:Sp}(d:Dfn K mg x st ps)(S:FnScope N ps (defScope st))(len:∀ vs H Q E,sp vs H Q E->vs.length=ps.length)
 (hbody:∀(f:Addr) (cdv:Value) (A:Around) (outer:List Env) (s:Shared) (H:Hp) (vs:List V) (Q:VK) (E:XK),Room k (A.deeper (envOfC x (defScope st) s.heap.objs.size f cdv))->sp vs H Q E ->
  ∃ t,Bx (PSs (cxOf CX0 P w K mg base N x (defScope st) f cdv A outer s H E).nox (defBody st) t)/\t { nx:=fun _ H'=>Q .non H',rt:=Q } (start N vs) H):Fn P w K mg base x (k+1) ps sp:=by
 obtain⟨f,fd,F,hm,hb⟩:=d.ex;exact⟨f,fd,F.ok S len (fun cdv A outer s H vs Q E hr h=>let⟨t,h1,h2⟩:=hbody f cdv A outer s H vs Q E hr h;⟨t,h1.out,h2⟩),hm,F.kp,hb⟩
theorem fun_bx{P:Program}{w:World}{K:W.Frag}{mg:Str->Option Value}{base:Heap}{x qual:Str}{st:Stmt}{f:Addr}{fd:FuncData}{N ps:List Str}{k:Nat}{sp:Sp}(F:Fun K x qual st f fd)(S:FnScope N ps (defScope st))(len:∀ vs H Q E,sp vs H Q E->vs.length=ps.length)
 (hbody:∀(cdv:Value) (A:Around) (outer:List Env) (s:Shared) (H:Hp) (vs:List V) (Q:VK) (E:XK),Room k (A.deeper (envOfC qual (defScope st) s.heap.objs.size f cdv))->sp vs H Q E ->
  ∃ t,Bx (PSs (cxOf CX0 P w K mg base N qual (defScope st) f cdv A outer s H E).nox (defBody st) t)/\t { nx:=fun _ H'=>Q .non H',rt:=Q } (start N vs) H):FnOk P w K mg base CX0 (k+1) f fd ps sp:=
 F.ok S len (fun cdv A outer s H vs Q E hr h=>let⟨t,h1,h2⟩:=hbody cdv A outer s H vs Q E hr h;⟨t,h1.out,h2⟩)
noncomputable def plainE:Expr->Bool
 | .Starred _ _=>false
 | _=>true
theorem star_of{e:Expr}{es:List Expr}{env:Env}(h:plainE e=true):starEach (e::es) env=(false,eval e env)::starEach es env:=by
 cases e <;> first | rfl | exact absurd h Bool.false_ne_true
theorem star_any{pos:Pos}{env:Env}:∀{es:List Expr},es.all plainE=true->(backTo pos (starEach es env)).any (·.1)=false
 | [],_=>rfl
 | e::es,h=>by
   rw[List.all_cons,Bool.and_eq_true]at h;rw[star_of h.1];show(false || (backTo pos (starEach es env)).any (·.1))=false;rw[star_any h.2]
   rfl
theorem star_all{pos:Pos}{env:Env}:∀{es:List Expr},es.all plainE=true->(backTo pos (starEach es env)).all (fun x=>!x.1)=true
 | [],_=>rfl
 | e::es,h=>by
   rw[List.all_cons,Bool.and_eq_true]at h;rw[star_of h.1];show(true && (backTo pos (starEach es env)).all (fun x=>!x.1))=true;rw[star_all h.2]
   rfl
section
variable{X:Cx}{x:Str}{p pos:Pos}{e:Expr}{es:List Expr}{t:TA}{te:TE}{k:Nat}{ps:List Str}{sp:Sp}
theorem pac(ha:PE X e te)(hr:PA X es t)(h:plainE e=true:=by rfl):PA X (e::es) (tCons te t):=pa_cons ha hr (star_of h)
theorem pe_fn(F:Fn X.prog X.w X.K X.mg X.base x k ps sp)(hr:Room k X.A)(ha:PA X (e::es) t)(hg:Gl X x:=by rfl)(hdb:(x == ("__debug__":Str))=false:=by decide)(h1:plainE e=true:=by rfl)(h2:es.all plainE=true:=by rfl) :
 PE X (.Call (.Name x p) (e::es) [] pos) (tCall sp [] E0 t):=by
 obtain⟨f,fd,G,hm,kp,b⟩:=F.ex;exact pe_call G hr hg hm kp b .nil pass0 ha hdb (star_of h1) (star_any h2)
theorem pe_cB{id:String}{r:List V->Hp->VK->Prop}(hc:CallR X (.builtin id) r)(hm:X.mg x=none)(hv:bootBuiltins x=some (.builtin id))(ha:PA X (e::es) t)(hg:Gl X x:=by rfl)(hn:x ≠ "__name__":=by decide)(hdb:(x == ("__debug__":Str))=false:=by decide)
 (h1:plainE e=true:=by rfl) (h2:es.all plainE=true:=by rfl):PE X (.Call (.Name x p) (e::es) [] pos) (tCB r t):=pe_callB hc hg hm hv ha hn hdb (star_of h1) (star_any h2)
theorem pe_cT{T:String}{r:List V->Hp->VK->Prop}(hc:CallR X (.type T) r)(hm:X.mg x=none)(hv:bootBuiltins x=some (.type T))(ha:PA X (e::es) t)(hg:Gl X x:=by rfl)(hn:x ≠ "__name__":=by decide)(hdb:(x == ("__debug__":Str))=false:=by decide)
 (h1:plainE e=true:=by rfl) (h2:es.all plainE=true:=by rfl):PE X (.Call (.Name x p) (e::es) [] pos) (tCB r t):=pe_callTy hc hg hm hv ha hn hdb (star_of h1) (star_any h2)
theorem pe_m{T name id:_}{r:V->List V->Hp->VK->Prop}{o:Expr}{to:TE}{apos cpos:Pos}(pa:PlainAttrs T)(slot:Slot T name id)(hty:typeOf (.builtin id)=pure (.type "method_descriptor"))(hm:MtR X id r)(ho:PE X o to)(ha:PA X (e::es) t)
 (hbase:attributeBase o name X.env (eval o X.env)=eval o X.env:=by rfl) (hl:decide ((e::es).length+([]:List Keyword).length+(if([]:List Keyword).isEmpty then 0 else 1) < 30)=true:=by rfl)
 (hline:(apos.endLine == cpos.line)=true:=by rfl) (h1:plainE e=true:=by rfl) (h2:es.all plainE=true:=by rfl) :
 PE X (.Call (.Attribute o name apos) (e::es) [] cpos) (tBM X.K T r to t):=by
 refine pe_bm pa slot hty hm ho ha hbase ?_ hline (star_of h1) (star_any h2);have hA:(e::es).all plainE=true:=by rw[List.all_cons,h1,h2];rfl
 rw[star_all hA,hl]
 rfl
theorem pi_r1{tg a:Expr}{ta:TA}(hm:X.mg "range"=none)(ha:PA X [a] ta)(hg:Gl X "range":=by rfl)(h1:plainE a=true:=by rfl):PI X tg (.Call (.Name "range" p) [a] [] pos) (iRng1 ta):=
 pi_range1 hg hm ha (star_of h1)
theorem pe_gint{i:Int}(h:∃ t,X.mg x=some (.int i t))(hg:Gl X x:=by rfl)(hd:(x == ("__debug__":Str))=false:=by decide):PE X (.Name x pos) (tC (.int i)):=by
 obtain⟨t,h⟩:=h;exact pe_glob hg h ⟨t,rfl⟩ hd
theorem pe_ty{n:String}(hm:X.mg x=none)(hv:bootBuiltins x=some (.type n))(hg:Gl X x:=by rfl)(hn:x ≠ "__name__":=by decide)(hd:(x == ("__debug__":Str))=false:=by decide):PE X (.Name x pos) (tC (.ty n)):=
 pe_bltn hg hm hv (show Value.type n=Value.type n from rfl) hn hd
end
namespace B
section
variable{X:Cx}{x f:Str}{p pos:Pos}{e a b c o:Expr}{es:List Expr}{t:TA}{te ta tb tc to ti:TE}{k:Nat}{ps:List Str}{sp:Sp}{tg:Expr}
theorem int{i j pos}:Bx (PE X (.Constant (.int i) j pos) (tC (.int i))):=⟨pe_int⟩
theorem bl{b j pos}:Bx (PE X (.Constant (.bool b) j pos) (tC (.bl b))):=⟨pe_bl⟩
theorem non{j pos}:Bx (PE X (.Constant .none j pos) (tC .non)):=⟨pe_non⟩
theorem str{x j pos}:Bx (PE X (.Constant (.str x) j pos) (tC (.str x))):=⟨pe_str⟩
theorem v(i:Nat){x:Str}{pos:Pos}(hN:X.N[i]?=some x:=by rfl)(hv:Vis X.env.scope x:=by first | exact Or.inl rfl | exact Or.inr (Or.inl rfl) | exact Or.inr (Or.inr rfl))(hd:(x == ("__debug__":Str))=false:=by decide)
 (hcd:(x == ("__classdict__":Str))=false:=by decide):Bx (PE X (.Name x pos) (tVar i)):=⟨pe_var hN hv hd hcd⟩
theorem gint{i:Int}(h:∃ t,X.mg x=some (.int i t))(hg:Gl X x:=by rfl)(hd:(x == ("__debug__":Str))=false:=by decide):Bx (PE X (.Name x pos) (tC (.int i))):=⟨pe_gint h hg hd⟩
theorem ty{n:String}(hm:X.mg x=none)(hv:bootBuiltins x=some (.type n))(hg:Gl X x:=by rfl)(hn:x ≠ "__name__":=by decide)(hd:(x == ("__debug__":Str))=false:=by decide):Bx (PE X (.Name x pos) (tC (.ty n))):=⟨pe_ty hm hv hg hn hd⟩
theorem op{op:Operator}{r:R2}(ho:OpR X (binaryOp op) r)(ha:Bx (PE X a ta))(hb:Bx (PE X b tb)):Bx (PE X (.BinOp a op b pos) (tOp r ta tb)):=⟨pe_op ho ha.out hb.out⟩
theorem un{op:UnaryOp}{r:V->Hp->VK->Prop}(ho:UnR X (unaryOp op) r)(ha:Bx (PE X a ta)):Bx (PE X (.UnaryOp op a pos) (tUn r ta)):=⟨pe_un ho ha.out⟩
theorem not(ha:Bx (PE X a ta)):Bx (PE X (.UnaryOp .Not a pos) (tNotV ta)):=⟨pe_not ha.out⟩
theorem cmp{op:CmpOp}{r:R2}(ho:OpR X (compareOp op) r)(ha:Bx (PE X a ta))(hb:Bx (PE X b tb))(hm:behindInMarks op b=false:=by exact nomark _):Bx (PE X (.Compare a [op] [b] pos) (tOp r ta tb)):=⟨pe_cmpR ho ha.out hb.out hm⟩
theorem chain{op op':CmpOp}{r r':R2}(ho:OpR X (compareOp op) r)(ho':OpR X (compareOp op') r')(ha:Bx (PE X a ta))(hb:Bx (PE X b tb))(hc:Bx (PE X c tc))(hm:lastMarks [op,op'] [b,c]=false:=by with_unfolding_all rfl) :
 Bx (PE X (.Compare a [op,op'] [b,c] pos) (tChain r r' ta tb tc)):=⟨pe_chain ho ho' ha.out hb.out hc.out hm⟩
theorem one{op}(h:Bx (PE X a ta)):Bx (PE X (.BoolOp op [a] pos) ta):=⟨pe_one h.out⟩
theorem and{rest:List Expr}(ha:Bx (PE X a ta))(hb:Bx (PE X (.BoolOp .And (b::rest) pos) tb)):Bx (PE X (.BoolOp .And (a::b::rest) pos) (tAndV ta tb)):=⟨pe_and ha.out hb.out⟩
theorem or{rest:List Expr}(ha:Bx (PE X a ta))(hb:Bx (PE X (.BoolOp .Or (b::rest) pos) tb)):Bx (PE X (.BoolOp .Or (a::b::rest) pos) (tOrV ta tb)):=⟨pe_or ha.out hb.out⟩
theorem ifx{tA:TT}(hc:Bx (PT X c tA))(ha:Bx (PE X a ta))(hb:Bx (PE X b tb)):Bx (PE X (.IfExp c a b pos) (tIf tA ta tb)):=⟨pe_ifExp hc.out ha.out hb.out⟩
theorem nil:Bx (PA X [] tNil):=⟨pa_nil⟩
theorem cons(ha:Bx (PE X e te))(hr:Bx (PA X es t))(h:plainE e=true:=by rfl):Bx (PA X (e::es) (tCons te t)):=⟨pac ha.out hr.out h⟩
theorem lst(h:Bx (PA X es t)):Bx (PE X (.List es pos) (tLst t)):=⟨pe_lst h.out⟩
theorem tup{x1}(h:Bx (PA X es t)):Bx (PE X (.Tuple es x1 pos) (tTup t)):=⟨pe_tup h.out⟩
theorem ix{r:R2}(hr:IxR X r)(ha:Bx (PE X a ta))(hb:Bx (PE X b tb))(hs:PlainIx b:=by exact fun _ _=>rfl):Bx (PE X (.Subscript a b pos) (tOp r ta tb)):=⟨pe_ix hr ha.out hb.out hs⟩
theorem nopart:Bx (PO X none tNoPart):=⟨po_none⟩
theorem part(h:Bx (PE X e te)):Bx (PO X (some e) (tPart te)):=⟨po_some h.out⟩
theorem slice{lo hi:Option Expr}{tl th:TO}{p2:Pos}{r:V->Option Int->Option Int->Hp->VK->Prop}(hr:SlR X r)(he:Bx (PE X e te))(hl:Bx (PO X lo tl))(hu:Bx (PO X hi th)):Bx (PE X (.Subscript e (.Slice lo hi none p2) pos) (tSl r te tl th)):=⟨pe_slice hr he.out hl.out hu.out⟩
theorem fn(F:Fn X.prog X.w X.K X.mg X.base x k ps sp)(hr:Room k X.A)(ha:Bx (PA X (e::es) t))(hg:Gl X x:=by rfl)(hdb:(x == ("__debug__":Str))=false:=by decide)(h1:plainE e=true:=by rfl)(h2:es.all plainE=true:=by rfl) :
 Bx (PE X (.Call (.Name x p) (e::es) [] pos) (tCall sp [] E0 t)):=⟨pe_fn F hr ha.out hg hdb h1 h2⟩
theorem cB{id:String}{r:List V->Hp->VK->Prop}(hc:CallR X (.builtin id) r)(hm:X.mg x=none)(hv:bootBuiltins x=some (.builtin id))(ha:Bx (PA X (e::es) t))(hg:Gl X x:=by rfl)(hn:x ≠ "__name__":=by decide)(hdb:(x == ("__debug__":Str))=false:=by decide)
 (h1:plainE e=true:=by rfl) (h2:es.all plainE=true:=by rfl):Bx (PE X (.Call (.Name x p) (e::es) [] pos) (tCB r t)):=⟨pe_cB hc hm hv ha.out hg hn hdb h1 h2⟩
theorem cT{T:String}{r:List V->Hp->VK->Prop}(hc:CallR X (.type T) r)(hm:X.mg x=none)(hv:bootBuiltins x=some (.type T))(ha:Bx (PA X (e::es) t))(hg:Gl X x:=by rfl)(hn:x ≠ "__name__":=by decide)(hdb:(x == ("__debug__":Str))=false:=by decide)
 (h1:plainE e=true:=by rfl) (h2:es.all plainE=true:=by rfl):Bx (PE X (.Call (.Name x p) (e::es) [] pos) (tCB r t)):=⟨pe_cT hc hm hv ha.out hg hn hdb h1 h2⟩
theorem m{T name id:_}{r:V->List V->Hp->VK->Prop}{apos cpos:Pos}(pa:PlainAttrs T)(slot:Slot T name id)(hty:typeOf (.builtin id)=pure (.type "method_descriptor"))(hm:MtR X id r)(ho:Bx (PE X o to))(ha:Bx (PA X (e::es) t))
 (hbase:attributeBase o name X.env (eval o X.env)=eval o X.env:=by rfl) (hl:decide ((e::es).length+([]:List Keyword).length+(if([]:List Keyword).isEmpty then 0 else 1) < 30)=true:=by rfl)
 (hline:(apos.endLine == cpos.line)=true:=by rfl) (h1:plainE e=true:=by rfl) (h2:es.all plainE=true:=by rfl) :
 Bx (PE X (.Call (.Attribute o name apos) (e::es) [] cpos) (tBM X.K T r to t)):=⟨pe_m pa slot hty hm ho.out ha.out hbase hl hline h1 h2⟩
theorem tcmp{op:CmpOp}{r:R2}(ho:OpR X (compareOp op) r)(ha:Bx (PE X a ta))(hb:Bx (PE X b tb))(hm:behindInMarks op b=false:=by exact nomark _):Bx (PT X (.Compare a [op] [b] pos) (tTest (tOp r ta tb))):=⟨pt_cmpR ho ha.out hb.out hm⟩
theorem tchain{op op':CmpOp}{r r':R2}(ho:OpR X (compareOp op) r)(ho':OpR X (compareOp op') r')(ha:Bx (PE X a ta))(hb:Bx (PE X b tb))(hc:Bx (PE X c tc))(hm:lastMarks [op,op'] [b,c]=false:=by with_unfolding_all rfl) :
 Bx (PT X (.Compare a [op,op'] [b,c] pos) (tTest (tChain r r' ta tb tc))):=⟨pt_chain ho ho' ha.out hb.out hc.out hm⟩
theorem tval(h:Bx (PE X e te))(he:∀ whole,isTrue e X.env whole=(do let v ← whole;standAt e.pos;holding [v] (truthy v)):=by intro _;rfl):Bx (PT X e (tB te)):=⟨pt_val h.out he⟩
theorem tnot{tA:TT}(ha:Bx (PT X a tA)):Bx (PT X (.UnaryOp .Not a pos) (tNot tA)):=⟨pt_not ha.out⟩
theorem wand1{tA:TT}(ha:Bx (PT X a tA)):Bx (PW X (.BoolOp .And [a] pos) tA):=⟨pw_and1 ha.out⟩
theorem wor1{tA:TT}(ha:Bx (PT X a tA)):Bx (PW X (.BoolOp .Or [a] pos) tA):=⟨pw_or1 ha.out⟩
theorem wand{tA tB':TT}{rest:List Expr}(ha:Bx (PT X a tA))(hb:Bx (PW X (.BoolOp .And (b::rest) pos) tB')):Bx (PW X (.BoolOp .And (a::b::rest) pos) (tAnd tA tB')):=⟨pw_and ha.out hb.out⟩
theorem wor{tA tB':TT}{rest:List Expr}(ha:Bx (PT X a tA))(hb:Bx (PW X (.BoolOp .Or (b::rest) pos) tB')):Bx (PW X (.BoolOp .Or (a::b::rest) pos) (tOr tA tB')):=⟨pw_or ha.out hb.out⟩
theorem tw{tA:TT}(h:Bx (PW X e tA)):Bx (PT X e tA):=⟨h.out.pt⟩
theorem gname{i:Nat}(hN:X.N.Nodup)(hi:X.N[i]?=some x:=by rfl)(hx:Loc X.env.scope x:=by first | exact Or.inl rfl | exact Or.inr rfl)(hf:X.fn x=true∨X.env.scope.names.lookup x=some .local:=by first | exact .inl rfl | exact .inr rfl):Bx (PG X (.Name x pos) (gName i)):=⟨pg_name hN hi hx hf⟩
theorem gnil:Bx (PGs X [] gNil):=⟨pgs_nil⟩
theorem gcons{g:TG}{u:TGs}(h1:Bx (PG X e g))(h2:Bx (PGs X es u))(hs:(assignEach (e::es) X.env).map (·.2)=assign e X.env::(assignEach es X.env).map (·.2):=by rfl):Bx (PGs X (e::es) (gCons g u)):=⟨pgs_cons h1.out h2.out hs⟩
theorem gtup{kk n:Nat}{u:TGs}(h:Bx (PGs X es u))(hc:X.calm=true:=by rfl)(hn:(assignEach es X.env).length=n:=by rfl)(hst:(assignEach es X.env).findIdx? (·.1)=none:=by rfl):Bx (PG X (.Tuple es kk pos) (gTup X.K n u)):=⟨pg_tup hc h.out hn hst⟩
theorem gsub{s:TSet}{i:Expr}(ho:Bx (PE X o to))(hi:Bx (PE X i ti))(hs:PSet X s)
 (ha:∀ v,assign (.Subscript o i pos) X.env v=(do
  let ov ← holding [v] (eval o X.env)
  let iv ← holding [v,ov] (eval i X.env)
  standAt pos
  holding [v,ov,iv] (setItem ov iv v)
  release [v,ov,iv] []):=by intro _;rfl):Bx (PG X (.Subscript o i pos) (gSub to ti s)):=⟨pg_sub ho.out hi.out hs ha⟩
theorem asg{g:TG}(he:Bx (PE X e te))(hg:Bx (PG X tg g))(hs:swapsWithSole [tg] e pos.line X.env=pure false:=by rfl)(hw:swappedStores [tg] e X.env=pure none:=by rfl)
 (h1:(assignEach [tg] X.env).map (·.2)=[assign tg X.env]:=by rfl):Bx (PS X (.Assign [tg] e pos) (tAsg te g)):=⟨ps_asg he.out hg.out hs hw h1⟩
theorem set(i:Nat){pos':Pos}(hN:X.N.Nodup)(he:Bx (PE X e te))(hi:X.N[i]?=some x:=by rfl)(hx:Loc X.env.scope x:=by first | exact Or.inl rfl | exact Or.inr rfl)(hs:swapsWith e (some (.Name x pos')) pos.line X.env=pure false:=by rfl)
 (hf:X.fn x=true∨X.env.scope.names.lookup x=some .local:=by first | exact .inl rfl | exact .inr rfl):Bx (PS X (.Assign [.Name x pos'] e pos) (tAsg te (gName i))):=⟨ps_set hN hi hx he.out hs hf⟩
theorem expr(he:Bx (PE X e te))(hs:swapsWith e none pos.line X.env=pure false:=by rfl):Bx (PS X (.Expr e pos) (tDrop te)):=⟨ps_expr he.out hs⟩
theorem ret(he:Bx (PE X e te)):Bx (PS X (.Return (some e) pos) (tRet te)):=⟨ps_ret he.out⟩
theorem retN:Bx (PS X (.Return none pos) tRetN):=⟨ps_retN⟩
theorem ifs{tcc:TT}{l r:List Stmt}{u w:TS}(hc:Bx (PT X c tcc))(ha:Bx (PSs X l u))(hb:Bx (PSs X r w)):Bx (PS X (.If c l r pos) (tIfS tcc u w)):=⟨ps_if hc.out ha.out hb.out⟩
theorem ilist{l:Expr}{tl:TE}(hl:Bx (PE X l tl)):Bx (PI X tg l (iList X.K tl)):=⟨pi_list hl.out⟩
theorem itup{l:Expr}{tl:TE}(hl:Bx (PE X l tl)):Bx (PI X tg l (iTup X.K tl)):=⟨pi_tup hl.out⟩
theorem irange{t:TA}(hm:X.mg "range"=none)(ha:Bx (PA X [a] t))(hg:Gl X "range":=by rfl)(h1:plainE a=true:=by rfl):Bx (PI X tg (.Call (.Name "range" p) [a] [] pos) (iRng1 t)):=⟨pi_r1 hm ha.out hg h1⟩
theorem fors{iter:Expr}{l:List Stmt}{wi:TI}{g:TG}{u:TS}(hi:Bx (PI X tg iter wi))(hg:Bx (PG X tg g))(hb:Bx (PSs X l u))(hp:PassesOwn (model X.prog X.w) X.A X.env X.xe:=by exact PassesOwn.never)(hc:X.calm=true:=by rfl)
 (hs:∀ x,foldedSetIterable iter X.env x=pure x:=by intro _;rfl):Bx (PS X (.For tg iter l [] pos) (tFor wi g u)):=⟨ps_for hp hc hi.out hg.out hb.out hs⟩
theorem snil:Bx (PSs X [] tNext):=⟨pss_nil⟩
theorem scons{st:Stmt}{rest:List Stmt}{u w:TS}(h1:Bx (PS X st u))(h2:Bx (PSs X rest w)):Bx (PSs X (st::rest) (tSeq u w)):=⟨pss_cons h1.out h2.out⟩
theorem sone{st:Stmt}{u:TS}(h1:Bx (PS X st u)):Bx (PSs X [st] u):=⟨pss_one h1.out⟩
end
end B
noncomputable def CDivL(_ j:Int):Prop:=0 < j/\j < 18446744073709551616
theorem op_fdivL{X:Cx}:OpR X (binaryOp .FloorDiv) (rI CDivL fun i j=>.int (i / j)):=opI fun i j _ _ _ _ _ hc q=>by
 have h1:(0:Int) < j:=hc.1;have h2:j < 18446744073709551616:=hc.2;have h3:j.natAbs.log2 < 64:=(Nat.log2_lt (by omega)).mpr (by omega)
 exact floordiv_int (by omega) (by rw[Int.fdiv_eq_ediv_of_nonneg i (by omega)];exact q) (.inl (PyProof.noPylong_of_log2 (by omega)))
section
variable{D:Ends}{σ:L2.St}{H:Hp}{Q:VK}{v:V}{K:W.Frag}
theorem wAsg{te:TE}{g:TG}(h:te σ H fun x H1=>g x σ H1 D.nx):tAsg te g D σ H:=h
theorem wName{i:Nat}{Q:L2.St->Hp->Prop}(h:Q (σ.set i (some v)) H):gName i v σ H Q:=h
theorem wSub{to ti:TE}{t:TSet}{Q:L2.St->Hp->Prop}(h:to σ H fun o H1=>ti σ H1 fun i H2=>t o i v H2 fun H3=>Q σ H3):gSub to ti t v σ H Q:=h
theorem wSetL{p:Addr}{xs:List V}{i:Int}{j:Nat}{Q:Hp->Prop}(e:H p=some (.lst xs))(hj:ixN xs.length i=some j)(h:Q (upd H p (.lst (xs.set j v)))):rSetL (.ref p) (.int i) v H Q:=⟨p,xs,i,j,rfl,rfl,e,hj,h⟩
theorem wDrop{te:TE}(h:te σ H fun _ H1=>D.nx σ H1):tDrop te D σ H:=h
theorem wRet{te:TE}(h:te σ H D.rt):tRet te D σ H:=h
theorem wRetN(h:D.rt .non H):tRetN D σ H:=h
theorem wNext(h:D.nx σ H):tNext D σ H:=h
theorem wIfS{c:TT}{t u:TS}(h:c σ H fun b H1=>if b=true then t D σ H1 else u D σ H1):tIfS c t u D σ H:=h
theorem wVar{i:Nat}(e:σ[i]?=some (some v))(h:Q v H):tVar i σ H Q:=⟨v,e,h⟩
theorem wC(h:Q v H):tC v σ H Q:=h
theorem wOp{r:R2}{ta tb:TE}(h:ta σ H fun x H1=>tb σ H1 fun y H2=>r x y H2 Q):tOp r ta tb σ H Q:=h
theorem wUn{r:V->Hp->VK->Prop}{ta:TE}(h:ta σ H fun x H1=>r x H1 Q):tUn r ta σ H Q:=h
theorem wU{g:Int->V}{i:Int}(h:Q (g i) H):rU g (.int i) H Q:=⟨i,rfl,h⟩
theorem wI0{g:Int->Int->V}{i j:Int}(h:Q (g i j) H):rI0 g (.int i) (.int j) H Q:=⟨i,j,rfl,rfl,h⟩
theorem wMod{g:Int->Int->V}{i j:Int}(c:0 < j)(h:Q (g i j) H):rI (fun _ j=>0 < j) g (.int i) (.int j) H Q:=⟨i,j,rfl,rfl,c,h⟩
theorem wDivL{g:Int->Int->V}{i j:Int}(c:0 < j/\j < 18446744073709551616)(h:Q (g i j) H):rI CDivL g (.int i) (.int j) H Q:=⟨i,j,rfl,rfl,c,h⟩
theorem wMul{g:Int->Int->V}{i j:Int}(c:(-18446744073709551616 < i/\i < 18446744073709551616)∨(-18446744073709551616 < j/\j < 18446744073709551616))(h:Q (g i j) H):rI CMul g (.int i) (.int j) H Q:=⟨i,j,rfl,rfl,c,h⟩
theorem wPow{g:Int->Int->V}{i j:Int}(c:0<=j/\j<=1000000/\i.natAbs < 2 ^ 64)(h:Q (g i j) H):rI CPow g (.int i) (.int j) H Q:=⟨i,j,rfl,rfl,c,h⟩
theorem wEqI{i j:Int}(h:Q (.bl (decide (V.int i=V.int j))) H):rEq (.int i) (.int j) H Q:=⟨rfl,h⟩
theorem wNeI{i j:Int}(h:Q (.bl (!decide (V.int i=V.int j))) H):rNe (.int i) (.int j) H Q:=⟨rfl,h⟩
theorem wTest{te:TE}{Q:Bool->Hp->Prop}(h:te σ H fun x H'=>∃ k,x=.bl k/\Q k H'):tTest te σ H Q:=h
theorem wB{te:TE}{Q:Bool->Hp->Prop}(h:te σ H fun x H'=>∃ k,x=.bl k/\Q k H'):tB te σ H Q:=h
theorem wBl{b:Bool}{Q:Bool->Prop}(h:Q b):∃ k,V.bl b=.bl k/\Q k:=⟨b,rfl,h⟩
theorem wNot{t:TT}{Q:Bool->Hp->Prop}(h:t σ H fun c H1=>Q (!c) H1):tNot t σ H Q:=h
theorem wNotV{ta:TE}(h:ta σ H fun x H1=>∃ c,x=.bl c/\Q (.bl (!c)) H1):tNotV ta σ H Q:=h
theorem wAndV{ta tb:TE}(h:ta σ H fun x H1=>∃ c,x=.bl c/\if c=true then tb σ H1 Q else Q (.bl false) H1):tAndV ta tb σ H Q:=h
theorem wOrV{ta tb:TE}(h:ta σ H fun x H1=>∃ c,x=.bl c/\if c=true then Q (.bl true) H1 else tb σ H1 Q):tOrV ta tb σ H Q:=h
theorem wIxL{p:Addr}{xs:List V}{i:Int}(e:H p=some (.lst xs))(a:atI xs i=some v)(h:Q v H):rIxL K (.ref p) (.int i) H Q:=⟨p,xs,i,v,rfl,rfl,SqL.of e,a,h⟩
theorem wIxT{p:Addr}{xs:List V}{i:Int}(e:H p=some (.tup xs))(a:atI xs i=some v)(h:Q v H):rIxT K (.ref p) (.int i) H Q:=⟨p,xs,i,v,rfl,rfl,SqT.of e,a,h⟩
theorem wNil{Q:List V->Hp->Prop}(h:Q [] H):tNil σ H Q:=h
theorem wCons{ta:TE}{tr:TA}{Q:List V->Hp->Prop}(h:ta σ H fun x H1=>tr σ H1 fun xs H2=>Q (x::xs) H2):tCons ta tr σ H Q:=h
theorem wLst{t:TA}(h:t σ H fun xs H1=>xs.length<=sizeLine /\ ∀ p,H1 p=none->Q (.ref p) (upd H1 p (.lst xs))):tLst t σ H Q:=h
theorem wTup{t:TA}(h:t σ H fun xs H1=>xs.length<=sizeLine /\ ∀ p,H1 p=none->Q (.ref p) (upd H1 p (.tup xs))):tTup t σ H Q:=h
theorem wBM{T:String}{r:V->List V->Hp->VK->Prop}{to:TE}{t:TA}(h:to σ H fun x H1=>tyV K T x H1/\t σ H1 fun xs H2=>r x xs H2 Q):tBM K T r to t σ H Q:=h
theorem wCall{sp:Sp}{E:XK}{t:TA}(h:t σ H fun vs H1=>sp (vs++[]) H1 Q E):tCall sp [] E t σ H Q:=h
theorem wCB{r:List V->Hp->VK->Prop}{t:TA}(h:t σ H fun vs H1=>r vs H1 Q):tCB r t σ H Q:=h
end
end SW
namespace SW
open PySem PySem.NumText
set_option maxHeartbeats 4000000 in
section
variable{prog:Program}{w:World}{A:Around}{E:Value->Shared->Prop}{s:Shared}{Q:Value->Shared->Prop}{x:PySem.Str}{t u:Tok}
end
end SW
namespace SW
open PySem PySem.Spec PyProof.Rows L2
noncomputable def Row(H:Hp)(p:Addr):Prop:=∃ a b c:Int,H p=some (.lst [.int a,.int b,.int c])/\0<=b/\b < 536870909
noncomputable def KeepBut(p:Addr)(H H':Hp):Prop:=∀ b o,b≠p->H b=some o->H' b=some o
theorem KeepBut.refl(p:Addr)(H:Hp):KeepBut p H H:=fun _ _ _ h=>h
theorem KeepBut.trans{p:Addr}{H H1 H2:Hp}(a:KeepBut p H H1)(b:KeepBut p H1 H2):KeepBut p H H2:=fun c o n h=>b c o n (a c o n h)
theorem KeepBut.new{p q:Addr}{o:HO}{H:Hp}(h:H q=none):KeepBut p H (upd H q o):=fun b u _ e=>by
 rw[upd_ne (ne_of_none e h)];exact e
theorem KeepBut.at{p:Addr}{o:HO}{H:Hp}:KeepBut p H (upd H p o):=fun b u n e=>by
 rw[upd_ne n];exact e
theorem Same.new{q:Addr}{o:HO}{H:Hp}(h:H q=none):Same H (upd H q o):=fun b u e=>by
 rw[upd_ne (ne_of_none e h)];exact e
theorem Same.but{p:Addr}{H H':Hp}(h:Same H H'):KeepBut p H H':=fun b o _ e=>h b o e
theorem Row.same{H H':Hp}{p:Addr}(r:Row H p)(s:Same H H'):Row H' p:=by
 obtain⟨a,b,c,h,h0,h1⟩:=r;exact⟨a,b,c,s _ _ h,h0,h1⟩
theorem Row.new{H:Hp}{p q:Addr}{o:HO}(r:Row H p)(h:H q=none):Row (upd H q o) p:=r.same (Same.new h)
theorem Row.ne{H:Hp}{p q:Addr}{xs:List V}(r:Row H p)(h:H q=some (.tup xs)):q≠p:=by
 obtain⟨a,b,c,e,_⟩:=r;exact ne_of h e (by intro z;cases z)
theorem Row.ne0{H:Hp}{p q:Addr}(r:Row H p)(h:H q=none):p≠q:=by
 obtain⟨a,b,c,e,_⟩:=r;exact ne_of_none e h
noncomputable def spStream:Sp:=fun vs H Q _=>∃ c:Int,vs=[.int c] /\ ∀ p o,H p=none->Row (upd H p o) p->Q (.ref p) (upd H p o)
noncomputable def spTake:Sp:=fun vs H Q _=>∃(p:Addr) (m:Int),vs=[.ref p,.int m]/\0 < m/\m < 18446744073709551616/\Row H p /\ ∀ r o,0<=r->r < m->Row (upd H p o) p->Q (.int r) (upd H p o)
theorem wStream{c:Int}{H:Hp}{Q:VK}{E:XK}(k:∀ p o,H p=none->Row (upd H p o) p->Q (.ref p) (upd H p o)):spStream ([.int c]++[]) H Q E:=⟨c,rfl,k⟩
theorem wTake{p:Addr}{m:Int}{H:Hp}{Q:VK}{E:XK}(hp:Row H p)(h0:0 < m)(h1:m < 18446744073709551616)(k:∀ r H',0<=r->r < m->Row H' p->KeepBut p H H'->Q (.int r) H'):spTake ([.ref p,.int m]++[]) H Q E:=
 ⟨p,m,rfl,h0,h1,hp,fun r o a b c=>k r _ a b c KeepBut.at⟩
noncomputable def spKey:Sp:=fun vs H Q _=>∃ p:Addr,vs=[.ref p]/\Row H p /\ ∀ k H',0<=k->k<=1000000000->Row H' p->KeepBut p H H'->Q (.int k) H'
theorem wKey{p:Addr}{H:Hp}{Q:VK}{E:XK}(hp:Row H p)(k:∀ k H',0<=k->k<=1000000000->Row H' p->KeepBut p H H'->Q (.int k) H'):spKey ([.ref p]++[]) H Q E:=⟨p,rfl,hp,k⟩
noncomputable def Mix(H:Hp)(t:Addr):Prop:=∃ f m:Int,H t=some (.tup [.int f,.int m])/\0<=f/\f<=65535/\0<=m/\m<=65535
theorem Mix.keep{H H':Hp}{p t:Addr}(h:Mix H t)(r:Row H p)(k:KeepBut p H H'):Mix H' t:=by
 obtain⟨f,m,e,b⟩:=h;exact⟨f,m,k _ _ (r.ne e) e,b⟩
theorem Mix.same{H H':Hp}{t:Addr}(h:Mix H t)(k:Same H H'):Mix H' t:=by
 obtain⟨f,m,e,b⟩:=h;exact⟨f,m,k _ _ e,b⟩
noncomputable def spMixer:Sp:=fun vs H Q _=>∃ p:Addr,vs=[.ref p]/\Row H p /\ ∀ t H',Mix H' t->Row H' p->KeepBut p H H'->Q (.ref t) H'
theorem wMixer{p:Addr}{H:Hp}{Q:VK}{E:XK}(hp:Row H p)(k:∀ t H',Mix H' t->Row H' p->KeepBut p H H'->Q (.ref t) H'):spMixer ([.ref p]++[]) H Q E:=⟨p,rfl,hp,k⟩
theorem atI_in{α:Type}{xs:List α}{i:Int}(h0:0<=i)(h1:i < xs.length):∃ v,atI xs i=some v/\v∈xs:=by
 obtain⟨j,rfl⟩:=Int.eq_ofNat_of_zero_le h0;have hj:j < xs.length:=by omega
 exact⟨xs[j],atI_nat (by simp[hj]),List.getElem_mem hj⟩
theorem KeepBut.upd{p q:Addr}{o:HO}{H H':Hp}(k:KeepBut p H H')(h:H q=none):KeepBut p H (upd H' q o):=fun b u n e=>by
 rw[upd_ne (ne_of_none e h)];exact k b u n e
theorem Mix.upd{H:Hp}{q t:Addr}{o:HO}{xs:List V}(m:Mix H t)(h:H q=some (.lst xs)):Mix (L2.upd H q o) t:=by
 obtain⟨f,z,e,b⟩:=m;refine⟨f,z,?_,b⟩;rw[upd_ne (ne_of e h (by intro z;cases z))];exact e
theorem Row.upd{H:Hp}{p q:Addr}{o:HO}(r:Row H p)(h:p≠q):Row (L2.upd H q o) p:=by
 obtain⟨a,b,c,e,z⟩:=r;exact⟨a,b,c,by rw[upd_ne h];exact e,z⟩
noncomputable def Mixs(H:Hp)(xs:List V):Prop:=∀ v∈xs,∃ t,v=V.ref t/\Mix H t
theorem Mixs.nil{H:Hp}:Mixs H []:=fun _ h=>nomatch h
theorem Mixs.more{H H':Hp}{xs:List V}(h:Mixs H xs)(t:Addr)(m:Mix H' t)(k:∀ t,Mix H t->Mix H' t):Mixs H' (xs++[V.ref t]):=fun v hv=>by
 rcases List.mem_append.mp hv with q | q
 · obtain⟨u,e,z⟩:=h v q
   exact⟨u,e,k u z⟩
 exact⟨t,List.mem_singleton.mp q,m⟩
theorem Mixs.map{H H':Hp}{xs:List V}(h:Mixs H xs)(k:∀ t,Mix H t->Mix H' t):Mixs H' xs:=fun v hv=>by
 obtain⟨u,e,z⟩:=h v hv;exact⟨u,e,k u z⟩
theorem Mixs.new{H:Hp}{xs:List V}(h:Mixs H xs)(t:Addr)(f m:Int)(ht:H t=none)(b:0<=f/\f<=65535/\0<=m/\m<=65535):Mixs (L2.upd H t (.tup [.int f,.int m])) (xs++[V.ref t]):=
 h.more t ⟨f,m,upd_same,b⟩ fun _ z=>z.same (Same.new ht)
section
variable{X:Cx}
theorem call_isi:CallR X (.builtin "isinstance") (fun xs H Q=>∃ x T t b,xs=[x,.ty T]/\TyOf X.K H x t/\W.kitOne X.K t (.type T)=some b/\Q (.bl b) H):=by
 intro pins s σ H xs us Q I r h;obtain⟨x,T,t,b,rfl,ty,e,q⟩:=h;obtain⟨u,v,rfl,ru,rv⟩:=vals2 r;cases (show v=Value.type T from rv);exact isinst_ok I ru ty e fun tk=>⟨.bl b,H,I.tok tk,rfl,q⟩
end
section
variable{D:Ends}{σ:L2.St}{H:Hp}{Q:VK}{v:V}{K:W.Frag}
theorem wFor{wi:TI}{g:TG}{tb:TS}(h:wi σ H fun J H1=>∃ W:Nat->Nat->L2.St->Hp->Prop,(∃ m,W 0 m σ H1) /\ ∀ i m σ H,W i m σ H ->
 (J.stop i H/\D.nx σ H)∨(J.go i H /\ ∃ N:L2.St->Hp->Prop,(∀ σ' H',N σ' H' -> ∃ m',m' < m/\W (i+1) m' σ' H') /\ ∀ x H',J.yld i H x H'->g x σ H' fun σ2 H2=>tb { D with nx:=N,ct:=N,bk:=D.nx } σ2 H2)):tFor wi g tb D σ H:=h
theorem wIList{tl:TE}{R:It->Hp->Prop}(h:tl σ H fun x H1=>∃ a,x=.ref a/\(∃ xs,SqL K H1 a xs)/\R (Itl K a) H1):iList K tl σ H R:=h
theorem wRng1{ta:TA}{R:It->Hp->Prop}(h:ta σ H fun vs H1=>∃ j:Int,vs=[.int j] /\ -(2 ^ 62)<=j/\j < 2 ^ 62/\R (Itr 0 j.toNat) H1):iRng1 ta σ H R:=h
theorem cut_ints(ns:List Int)(lo hi:Option Int):∃ cs:List Int,cutV (ns.map V.int) lo hi=cs.map V.int/\cs.length<=ns.length:=by
 unfold cutV;rw[← List.map_drop,← List.map_take];exact⟨_,rfl,by rw[List.length_take,List.length_drop];omega⟩
end
theorem iteY{c A B:Prop}[Decidable c](hc:c)(h:A):if decide c=true then A else B:=by
 rw[decide_eq_true hc];exact iteT h
theorem getInt{cs:List Int}{i:Nat}{y:V}(h:(cs.map V.int)[i]?=some y):∃ c,y=V.int c:=by
 rw[List.getElem?_map]at h;cases e:cs[i]? with
 | none=>rw[e]at h;cases h
 | some z=>rw[e]at h;exact⟨z,(Option.some.inj h).symm⟩
noncomputable def spLaw(K:W.Frag):Sp:=fun vs H Q _=>∃(a:Addr) (ns:List Int),vs=[.ref a]/\SqL K H a (ns.map V.int)/\ns.length<=63 /\ ∀ H',Q (.bl true) H'
section
variable{H:Hp}{Q:VK}
theorem wInt1{k:Bool}{P:Int->Prop}(h:P (if k=true then 1 else 0)):(∃ i,[V.bl k]=[V.int i]/\P i) ∨ ∃ k',[V.bl k]=[V.bl k']/\P (if k'=true then 1 else 0):=.inr ⟨k,rfl,h⟩
end
theorem decI(a b:Int):decide (V.int a=V.int b)=decide (a=b):=by
 by_cases h:a=b
 · rw[decide_eq_true h,decide_eq_true (congrArg V.int h)]
 rw[decide_eq_false h,decide_eq_false (fun z=>h (V.int.inj z))]
section
variable{D:Ends}{σ:L2.St}{H:Hp}{Q:VK}
theorem wAnd{t u:TT}{Q:Bool->Hp->Prop}(h:t σ H fun c H1=>if c=true then u σ H1 Q else Q false H1):tAnd t u σ H Q:=h
theorem wOr{t u:TT}{Q:Bool->Hp->Prop}(h:t σ H fun c H1=>if c=true then Q true H1 else u σ H1 Q):tOr t u σ H Q:=h
theorem wChain{r r':R2}{ta tb tc:TE}(h:ta σ H fun x H1=>tb σ H1 fun y H2=>r x y H2 fun z H3=>∃ k,z=.bl k/\(if k=true then tc σ H3 fun w' H4=>r' y w' H4 Q else Q (.bl false) H3)):tChain r r' ta tb tc σ H Q:=h
end
theorem iteNo{c A B:Prop}[Decidable c](hc:¬ c)(h:B):if decide c=true then A else B:=by
 rw[decide_eq_false hc];exact iteF h
theorem iteNN{c A B:Prop}[Decidable c](hc:¬ c)(h:A):if(!decide c)=true then A else B:=by
 rw[decide_eq_false hc];exact iteT h
theorem iteB{b:Bool}{A B:Prop}(h1:b=true->A)(h2:b=false->B):if b=true then A else B:=by
 cases b with
 | true=>exact iteT (h1 rfl)
 | false=>exact iteF (h2 rfl)
theorem vi{a b:Int}:V.int a=V.int b ↔ a=b:=⟨V.int.inj,congrArg _⟩
noncomputable def spMark:Sp:=fun vs H Q _=>∃(k:Int) (t:Addr) (f m:Int),vs=[.int k,.ref t]/\H t=some (.tup [.int f,.int m])/\(0<=f/\f<=65535)/\Q (.int ((k*f+m) % 65536)) H
noncomputable def spPlace:Sp:=fun vs H Q _=>∃ m s:Int,vs=[.int m,.int s]/\0 < s/\Q (.int (m % s)) H
theorem wMark{k:Int}{t:Addr}{f m:Int}{H:Hp}{Q:VK}{E:XK}(h:H t=some (.tup [.int f,.int m]))(b:0<=f/\f<=65535)(q:Q (.int ((k*f+m) % 65536)) H):spMark ([.int k,.ref t]++[]) H Q E:=⟨k,t,f,m,rfl,h,b,q⟩
theorem wPlace{m s:Int}{H:Hp}{Q:VK}{E:XK}(h:0 < s)(q:Q (.int (m % s)) H):spPlace ([.int m,.int s]++[]) H Q E:=⟨m,s,rfl,h,q⟩
noncomputable def compCx(X:Cx)(scope:Scope)(cl:List (Str×Addr))(N':List Str)(s:Shared)(H:Hp)(fp:List Addr)(pins:List (Addr×Obj)):Cx:=
 { X with N:=N',s₀:=s,H₀:=H,env:=compEnvC scope cl s.heap.objs.size X.env,outer:=X.stack,stack:=X.stack,ex:=fp,fn:=fun _=>false,pn:=X.pn++pins,xe:=fun _ _=>False }
structure CompScope(X:Cx)(scope:Scope)(cl:List (Str×Addr))(x:Str)(js:List Nat)(N':List Str):Prop where
 clos:closureFor scope X.env=pure cl
 kind:scope.kind=.function
 nocell:∀ y∈scope.names,y.2 ≠ .cell
 names:∀ y∈scope.names,y.2=.local->scope.names.lookup y.1=some .local
 own:scope.names.lookup x=some .local
 sub:∀ p∈cl,X.env.cells.lookup p.1=some p.2
 has:∀ y,((relabel scope X.env).names.lookup y=some .cell∨(relabel scope X.env).names.lookup y=some .free) -> ∃ c,cl.lookup y=some c
 nm:N'=x::js.map fun j=>X.N.getD j Str.empty
 see:∀(i j:Nat),js[i]?=some j -> ∃ y,X.N[j]?=some y/\(X.env.kindOf y=some .cell∨X.env.kindOf y=some .free)/\((relabel scope X.env).names.lookup y=some .cell∨(relabel scope X.env).names.lookup y=some .free)
noncomputable def seen(σ:L2.St)(js:List Nat):L2.St:=none::js.map fun j=>σ.getD j none
section
variable{X:Cx}{scope:Scope}{cl:List (Str×Addr)}{x:Str}{js:List Nat}{N':List Str}{pins:List (Addr×Obj)}{σ:L2.St}{H:Hp}{s:Shared}{fp:List Addr}
theorem CompScope.sub'(S:CompScope X scope cl x js N'){y:Str}{c:Addr}(h:cl.lookup y=some c):X.env.cells.lookup y=some c:=S.sub (y,c) (PySem.mem_of_lookup h)
theorem comp_ok(S:CompScope X scope cl x js N')(I:Inv X pins σ H s)(hf:∀ b∈fp,FpOk X pins H b)(ho:∀ b∈fp,b < s.heap.objs.size):(compCx X scope cl N' s H fp pins).Ok where
 mod:=I.ok.mod
 kind:=S.kind
 glob:=I.ok.glob
 blt:=I.ok.blt
 above:=Nat.le_refl _
 inj:=fun y z c h1 h2=>I.ok.inj y z c (S.sub' h1) (S.sub' h2)
 has:=fun y h=>S.has y h
 cab:=fun y c h=>absurd h Bool.false_ne_true
 hd:=I.ok.hd
 frames:=I.ok.frames
 stk:=.inl rfl
 exf:=fun b hb=>⟨Nat.ne_of_lt (ho b hb),fun y c h=>(hf b hb).2.2.2.2.1 y c (S.sub' h)⟩
 bs:=I.bs
 bsz:=Nat.le_trans I.ok.bsz I.sz
 noex:=fun b o e hb=>by
  rcases(hf b hb).2.2.2.1 with z | z
  · exact I.ok.noex b o e z
  exact absurd (Nat.lt_of_lt_of_le (Heap.lt_size (I.ok.bs b o e).1) z) (Nat.lt_irrefl _)
 exfs:=fun b hb z=>by
  rcases List.mem_cons.mp (I.stkSub b z)with e | e
  · exact(hf b hb).2.1 e
  exact(hf b hb).2.2.1 e
 funs:=I.stack
 frf:=I.stkFree
theorem comp_inv(S:CompScope X scope cl x js N')(I:Inv X pins σ H s)(hf:∀ b∈fp,FpOk X pins H b)(ho:∀ b∈fp,b < s.heap.objs.size){s4:Shared}{m:Str->Option Value}(hos:s4.os=s.os)(hg:s4.gens=s.gens)
 (hn:s4.heap.Ns s.heap.objs.size m) (hk:∀ b o,s.heap.get? b=some o->s4.heap.get? b=some o):Inv (compCx X scope cl N' s H fp pins) [] (seen σ js) H s4 where
 ok:=comp_ok S I hf ho
 os:=hos
 bare:=by rw[hg];exact I.bare
 base:=Un.kept hk
 loc:=by
  obtain⟨mX,_,hl⟩:=I.loc;refine⟨m,hn,fun i y v h1 h2 h3=>?_⟩;cases i with
  | zero=>
    unfold seen at h2;simp at h2
  | succ i=>
    have h1':N'[i+1]?=some y:=h1;rw[S.nm,List.getElem?_cons_succ,List.getElem?_map]at h1';unfold seen at h2;rw[List.getElem?_cons_succ,List.getElem?_map]at h2;cases ej:js[i]? with
    | none=>rw[ej]at h2;cases h2
    | some j=>
      rw[ej]at h1' h2;obtain⟨z,hz,k1,k2⟩:=S.see i j ej;have ey:z=y:=by
       have:X.N.getD j Str.empty=y:=Option.some.inj h1';rw[List.getD_eq_getElem?_getD,hz]at this;exact this
      subst ey;have ev:σ[j]?=some (some v):=by
       have q:σ.getD j none=some v:=Option.some.inj h2;rw[List.getD_eq_getElem?_getD]at q;cases e:σ[j]? with
       | none=>rw[e]at q;cases q
       | some w'=>rw[e]at q;exact congrArg some q
      have kx:X.env.scope.names.lookup z=some .cell∨X.env.scope.names.lookup z=some .free:=k1;obtain⟨u,r,l⟩:=hl j z v hz ev (.inr kx);refine⟨u,r,.inr ⟨k2,?_⟩⟩;obtain⟨c,hc⟩:=S.has z k2;rcases l with ⟨kl,_⟩ | ⟨_,c',e',cell⟩
      · rcases k1 with k1 | k1 <;> rw[k1]at kl <;> cases kl
      have:c'=c:=Option.some.inj (e'.symm.trans (S.sub' hc));subst this;obtain⟨o,q1,q2⟩:=cell;exact⟨c',hc,o,hk _ _ q1,q2⟩
 cell:=fun y c h=>by
  obtain⟨v,o,q1,q2⟩:=I.cell y c (S.sub' h);exact⟨v,o,hk _ _ q1,q2⟩
 free:=I.hok.fresh (Nat.le_refl _)
 freeC:=fun y c h=>I.freeC y c (S.sub' h)
 pin:=fun p hp=>by
  have hp':p∈X.pn++pins:=by
   have q:p∈(X.pn++pins)++[]:=hp;rw[List.append_nil]at q;exact q
  obtain⟨e,n,ne,nf,d⟩:=I.pin p hp';refine⟨hk _ _ e,n,Nat.ne_of_lt (Heap.lt_size e),fun z=>?_,d⟩;rcases List.mem_cons.mp (I.stkSub p.1 z)with q | q
  · exact ne q
  exact nf q
 hok:=I.hok.kept hk
 len:=by
  show(seen σ js).length=N'.length;rw[S.nm];unfold seen;simp
theorem comp_back{s':Shared}{σ':L2.St}{H':Hp}{h':Heap}(I:Inv X pins σ H s)(hf:∀ b∈fp,FpOk X pins H b)(J:Inv (compCx X scope cl N' s H fp pins) [] σ' H' s')(hs:Heap.SameBut s.heap.objs.size s'.heap h') :
 Inv X pins σ H' { s' with heap:=h' }:=by
 have ne:∀ b o,s.heap.get? b=some o->b≠s.heap.objs.size:=fun b o e=>Nat.ne_of_lt (Heap.lt_size e);have u0:Un (frs X.stack) fp H H' s.heap s'.heap:=J.base;have u:Un (frs X.stack) fp H H' s.heap h':=
  ⟨fun b o e n h1 h2=>(hs.2 b (ne b o e)).trans (u0.keep b o e n h1 h2),fun b o e n h1 h2=>let⟨sl,q⟩:=u0.slot b o e n h1 h2;⟨sl,(hs.2 b (ne b o e)).trans q⟩,u0.free,
   fun b o e h2=>let⟨o',q⟩:=u0.there b o e h2;⟨o',(hs.2 b (ne b o e)).trans q⟩,u0.tups,u0.frzs,u0.tbls⟩
 have hfree:H' s.heap.objs.size=none:=J.free;have hok:HOk X.prog X.w H' h':=fun b ob e=>by
  refine(J.hok b ob e).stay (fun c w' hc q=>(hs.2 c ?_).trans q) (fun _ q=>q) fun _ _ q=>q;rintro rfl;rcases hc with rfl | hc
  · rw[hfree]at e;cases e
  rw[hfree]at hc;cases hc
 exact I.call' (s':={ s' with heap:=h' }) J.os u hok J.bare fun b hb=>⟨(hf b hb).2.2.2.1,(hf b hb).2.1,(hf b hb).2.2.2.2.1,(hf b hb).2.2.2.2.2⟩
end
theorem comp_loop{prog:Program}{w:World}{A:Around}{R:Result->Shared->Prop}{s:Shared}{elt target iter:Expr}{ifs:List Expr}{scope:Scope}{pos:Pos}{it acc:Value}{env:Env}(I:Nat->Shared->Prop)
 (turn:∀ n s,I n s->wpAny (model prog w) A (pyNext it) (fun r s₁=>match r with
  | none=>R (.ok .next) s₁
  | some v=>wpAny (model prog w) A (letOwnedTupleGo target it v) (fun _ s₁'=>wpAny (model prog w) A (assign target env v) (fun _ s₂=>
   wpAny (model prog w) A (forIn ifs true fun c r=>if r=true then do let ok ← isTrue c env (eval c env);pure (ForInStep.yield ok)else pure (ForInStep.yield r)) (fun ok s₃=>
    if ok=true then wpAny (model prog w) A (eval elt env) (fun x s₄=>
     wpAny (model prog w) A (call (.builtin "list.append") [acc,x]) (fun _ s₅=>∃ m,m < n/\I m s₅) (fun _ _=>False) s₄) (fun _ _=>False) s₃
    else ∃ m,m < n/\I m s₃) (fun _ _=>False) s₂) (fun _ _=>False) s₁') (fun _ _=>False) s₁) (fun _ _=>False) s)
 (n:Nat) (h:I n s):codeAny (model prog w) A (.compLoop (.ListComp elt [⟨target,iter,ifs,0⟩] scope pos) 0 it acc env) R s:=by
 refine codeAny_loop rfl I (fun n s hI=>?_) n h;show wpAny _ A ((compTurn (.ListComp elt [⟨target,iter,ifs,0⟩] scope pos) 0 it acc env).onRaise (fun x=>do noteFrame x env;theTreesLotGoes x)) _ _ s;refine wpAny_noted ?_;rw[compTurn_list];refine wpAny_bind (wpAny_standAt (wpAny_bind (wpAny_mono (turn n s hI) (fun r s₁ h₁=>?_) fun _ _ h'=>h'.elim)));cases r with
 | none=>exact wpAny_pure h₁
 | some v=>
   refine wpAny_bind (wpAny_mono h₁ (fun _ s₁' h₁'=>?_) fun _ _ h'=>h'.elim);refine wpAny_bind (wpAny_mono h₁' (fun _ s₂ h₂=>wpAny_bind (wpAny_mono h₂ (fun ok s₃ h₃=>?_) fun _ _ h'=>h'.elim)) fun _ _ h'=>h'.elim);cases ok with
   | false=>exact wpAny_pure ⟨rfl,h₃⟩
   | true=>
     exact wpAny_bind (wpAny_bind (wpAny_mono h₃ (fun x s₄ h₄=>wpAny_bind (wpAny_mono h₄ (fun _ s₅ h₅=>wpAny_pure (wpAny_pure ⟨rfl,h₅⟩)) fun _ _ h'=>h'.elim)) fun _ _ h'=>h'.elim))
noncomputable def PTs(X:Cx)(ifs:List Expr)(t:TT):Prop:=
 ∀(pins:List (Addr×Obj)) (s:Shared) (σ:L2.St) (H:Hp) (Q:Bool->Hp->Prop) (E:Value->Shared->Prop),(∀ e s',X.xe e s'->E e s')->Inv X pins σ H s->t σ H Q ->
   wpAny (model X.prog X.w) X.A (forIn ifs true fun c r=>if r=true then do let ok ← isTrue c X.env (eval c X.env);pure (ForInStep.yield ok)else pure (ForInStep.yield r)) (TP X pins σ Q) E s
theorem pts_nil{X:Cx}:PTs X [] (fun _ H Q=>Q true H):=fun _ _ _ H _ _ _ I h=>wpAny_tests_nil ⟨H,I,h⟩
noncomputable def tComp(js:List Nat)(wi:TI)(tt:TT)(te:TE):TE:=fun σ H Q=>wi σ H fun J H1=>∀ D,H1 D=none -> ∃ W:Nat->Nat->L2.St->Hp->Prop,(∃ m,W 0 m (seen σ js) (upd H1 D (.lst []))) /\
 ∀ i m σ' H',W i m σ' H'->(J.stop i H'/\Q (.ref D) H')∨(J.go i H' /\ ∀ x H2,J.yld i H' x H2->tt (σ'.set 0 (some x)) H2 fun ok H3=>
   if ok=true then te (σ'.set 0 (some x)) H3 fun y H4=>∃ ys,H4 D=some (.lst ys)/\ys.length < sizeLine /\ ∃ m',m' < m/\W (i+1) m' (σ'.set 0 (some x)) (upd H4 D (.lst (ys++[y])))
   else ∃ m',m' < m/\W (i+1) m' (σ'.set 0 (some x)) H3)
section
variable{X:Cx}{scope:Scope}{cl:List (Str×Addr)}{x:Str}{js:List Nat}{N':List Str}{elt iter:Expr}{ifs:List Expr}{px pos:Pos}{wi:TI}{tt:TT}{te:TE}
theorem comp_core{RR:Value->Addr->Result->Shared->Prop}{pins:List (Addr×Obj)}{σ:L2.St}{H2:Hp}{s2:Shared}{Q:VK}{it:Addr}{fp:List Addr}{tn:Nat->Heap->Prop}{J:It}(S:CompScope X scope cl x js N')(nd:N'.Nodup)(hc:X.calm=true)
 (ht:∀ s H fp pins,PTs (compCx X scope cl N' s H fp pins) ifs tt) (he:∀ s H fp pins,PE (compCx X scope cl N' s H fp pins) elt te)
 (I2:Inv X pins σ H2 s2) (T:Turn X.prog X.w X.K (.Name x px) J fp it tn) (st2:tn 0 s2.heap) (f2:∀ b∈fp,FpOk X pins H2 b)
 (k:∀ D,H2 D=none -> ∃ W:Nat->Nat->L2.St->Hp->Prop,(∃ m,W 0 m (seen σ js) (upd H2 D (.lst []))) /\
  ∀ i m σ' H',W i m σ' H'->(J.stop i H'/\Q (.ref D) H')∨(J.go i H' /\ ∀ x H2,J.yld i H' x H2->tt (σ'.set 0 (some x)) H2 fun ok H3=>
    if ok=true then te (σ'.set 0 (some x)) H3 fun y H4=>∃ ys,H4 D=some (.lst ys)/\ys.length < sizeLine /\ ∃ m',m' < m/\W (i+1) m' (σ'.set 0 (some x)) (upd H4 D (.lst (ys++[y])))
    else ∃ m',m' < m/\W (i+1) m' (σ'.set 0 (some x)) H3))
 (fin:∀(D C:Addr) (s6:Shared) (H6:Hp) (m:Str->Option Value),s6.heap.Ns C m->(∀ h',Heap.SameBut C s6.heap h'->Inv X pins σ H6 { s6 with heap:=h' })->H6 C=none->FpOk X pins H6 C->Q (.ref D) H6->RR (.ref D) C (.ok .next) s6) :
 wpAny (model X.prog X.w) X.A (newList []) (fun acc s₃=>wpAny (model X.prog X.w) X.A (newFunctionEnv scope X.env.globals cl [] X.env.qual none .none (some X.env)) (fun cenv s₄=>
  codeAny (model X.prog X.w) X.A (.compStart (.ListComp elt [⟨.Name x px,iter,ifs,0⟩] scope pos) 0 (.ref it) acc { cenv with scope:=relabel scope X.env }) (RR acc cenv.locals) s₄) X.xe s₃) X.xe s2:=by
 have hDn:H2 s2.heap.objs.size=none:=I2.hok.fresh (Nat.le_refl _);obtain⟨W,⟨m0,w0⟩,turn⟩:=k s2.heap.objs.size hDn;refine wpAny_newObj_type (wpAny_newFunctionEnv S.nocell (by intro y hy;simp at hy) (fun h4 hns4 hsb4=>?_) S.kind) (by show 0<=sizeLine;exact Nat.zero_le _)
 have I3:Inv X pins σ (upd H2 s2.heap.objs.size (.lst [])) { s2 with heap:=s2.heap.push { cls:=.type "list",dict:=none,data:=.seq ([]:List Value).toArray } }:=
  I2.laid (t':=s2.toks) (fun b u e=>Heap.get?_push_of_some _ e) (Nat.le_refl _) ⟨Nat.zero_le _,[],0,.nil,Heap.get?_push_size _ rfl⟩
 have ltf:∀ b∈fp,b < s2.heap.objs.size:=fun b hb=>let⟨o,e,_⟩:=T.obj 0 _ st2 b hb;Heap.lt_size e;have f3:∀ b∈fp,FpOk X pins (upd H2 s2.heap.objs.size (.lst [])) b:=fun b hb=>⟨by rw[upd_ne (Nat.ne_of_lt (ltf b hb))];exact(f2 b hb).1,(f2 b hb).2⟩
 generalize hH:upd H2 s2.heap.objs.size (.lst [])=H3 at *;generalize hS3:({ s2 with heap:=s2.heap.push { cls:=.type "list",dict:=none,data:=.seq ([]:List Value).toArray } }:Shared)=s3 at *;have o3:∀ b∈fp,b < s3.heap.objs.size:=fun b hb=>by
  rw[← hS3];show b < (s2.heap.push _).objs.size;rw[Heap.size_push];exact Nat.lt_succ_of_lt (ltf b hb)
 have k4:∀ b o,s3.heap.get? b=some o->h4.get? b=some o:=fun b o e=>(hsb4.2 b (Nat.ne_of_lt (Heap.lt_size e))).trans (Heap.get?_push_of_some _ e);have st3:tn 0 s3.heap:=T.keep 0 _ _ st2 fun b hb o e=>by rw[← hS3];exact Heap.get?_push_of_some _ e
 have st4:tn 0 h4:=T.keep 0 _ _ st3 fun b hb o e=>k4 b o e;have I4:Inv (compCx X scope cl N' s3 H3 fp pins) [] (seen σ js) H3 { s3 with heap:=h4,toks:=s3.toks+([]:List (Str×Value)).length }:=comp_inv S I3 f3 o3 rfl rfl hns4 k4;have ok:=comp_ok S I3 f3 o3;have fp5:∀{H':Hp},(∀ b∈fp,H' b=none) -> ∀ b∈fp,FpOk (compCx X scope cl N' s3 H3 fp pins) [] H' b:=fun hn b hb=>
  ⟨hn b hb,Nat.ne_of_lt (o3 b hb),ok.exfs b hb,.inl hb,fun y c h=>(f3 b hb).2.2.2.2.1 y c (S.sub' h),fun p hp=>(f3 b hb).2.2.2.2.2 p (by
   have q:p∈(X.pn++pins)++[]:=hp;rw[List.append_nil]at q;exact q)⟩
 have loop:codeAny (model X.prog X.w) X.A (.compLoop (.ListComp elt [⟨.Name x px,iter,ifs,0⟩] scope pos) 0 (.ref it) (.ref s2.heap.objs.size) (compEnvC scope cl s3.heap.objs.size X.env))
  (RR (.ref s2.heap.objs.size) s3.heap.objs.size) { s3 with heap:=h4,toks:=s3.toks+([]:List (Str×Value)).length }:=by
  refine comp_loop (fun n s'=>∃ i σ' H',Inv (compCx X scope cl N' s3 H3 fp pins) [] σ' H' s'/\tn i s'.heap/\(∀ b∈fp,H' b=none)/\W i n σ' H') ?_ m0 ⟨0,_,_,I4,st4,fun b hb=>(f3 b hb).1,w0⟩;rintro n s5 ⟨i,σ5,H5,I5,st5,fr5,w5⟩;rcases turn i n σ5 H5 w5 with ⟨stop,q⟩ | ⟨go,step⟩
  · refine wpAny_mono (T.done (compCx X scope cl N' s3 H3 fp pins) rfl rfl rfl hc i [] s5 σ5 H5 (fun _ _=>False) I5 (fp5 fr5) st5 stop) (fun r s6 ⟨hr,I6⟩=>?_) (fun _ _ z=>z.elim)
    subst hr;obtain⟨m,hm,_⟩:=I6.loc;exact fin _ _ s6 H5 m hm (fun h' hs'=>comp_back I3 f3 I6 hs') I6.free (I3.fpOk (Nat.le_refl _) I6.free) q
  refine wpAny_mono (T.item (compCx X scope cl N' s3 H3 fp pins) rfl rfl rfl hc i [] s5 σ5 H5 (fun _ _=>False) I5 (fp5 fr5) st5 go) (fun r s6 ⟨u,hr,h6⟩=>?_) (fun _ _ z=>z.elim);subst hr;refine wpAny_mono h6 (fun _ s6 ⟨y,H6,I6,r6,y6,st6,fr6⟩=>?_) (fun _ _ z=>z.elim);have I6':=I6.pinned (fp5 fr6) (T.obj _ _ st6);have again:∀{σ7:L2.St}{H7:Hp}{s7:Shared}{m':Nat},Inv (compCx X scope cl N' s3 H3 fp pins) ([]++pinsAt fp s6.heap) σ7 H7 s7->m' < n->W (i+1) m' σ7 H7 ->
   ∃ m,m < n /\ ∃ i σ' H',Inv (compCx X scope cl N' s3 H3 fp pins) [] σ' H' s7/\tn i s7.heap/\(∀ b∈fp,H' b=none)/\W i m σ' H':=fun {σ7 H7 s7 m'} I7 hm w7=>by
   refine⟨m',hm,i+1,σ7,H7,I7.unpinned,T.keep _ _ _ st6 fun b hb o e=>(I7.pin (b,o) (List.mem_append_right _ (List.mem_append_right _ (mem_pinsAt hb e)))).1,fun b hb=>?_,w7⟩;obtain⟨o,e,d⟩:=T.obj _ _ st6 b hb;exact(I7.pin (b,o) (List.mem_append_right _ (List.mem_append_right _ (mem_pinsAt hb e)))).2.1
  have step':=step y H6 y6;refine wpAny_mono (pg_name (X:=compCx X scope cl N' s3 H3 fp pins) (i:=0) (x:=x) (pos:=px) nd (by show N'[0]?=some x;rw[S.nm];rfl) (.inl (lookup_relabel_local S.own)) (.inr (lookup_relabel_local S.own)) _ s6 σ5 H6 y u
   (fun σ' H'=>σ'=σ5.set 0 (some y)/\H'=H6) I6' r6 ⟨rfl,rfl⟩) (fun _ s7 ⟨σ7,H7,I7,e7,eH⟩=>?_) (fun _ _ z=>z.elim)
  subst e7;subst eH;refine wpAny_mono (ht s3 H3 fp pins _ s7 _ H7 _ (fun _ _=>False) (fun _ _ z=>z) I7 step') (fun okk s8 ⟨H8,I8,q8⟩=>?_) (fun _ _ z=>z.elim);cases okk with
  | false=>
    obtain⟨m',hm,w8⟩:=q8;exact again I8 hm w8
  | true=>
    refine wpAny_mono (he s3 H3 fp pins _ s8 _ H8 _ I8 q8) (fun ev s9 ⟨z,H9,I9,r9,ys,hys,hlen,m',hm,w9⟩=>?_) (fun _ _ z=>z.elim);refine wpAny_mono (mt_append (X:=compCx X scope cl N' s3 H3 fp pins) _ s9 _ H9 (.ref s2.heap.objs.size) [z] (.ref s2.heap.objs.size) [ev] (fun _ H'=>H'=upd H9 s2.heap.objs.size (.lst (ys++[z]))) I9 rfl (.cons r9 .nil)
     ⟨_,ys,z,rfl,rfl,hys,hlen,rfl⟩) (fun _ s10 ⟨_,H10,I10,_,e10⟩=>?_) (fun _ _ z=>z.elim)
    subst e10;exact again I10 hm w9
 exact codeAny_compStart_list loop (T.self X.A 0 _ _ _ st4 loop)
theorem pe_comp(S:CompScope X scope cl x js N')(nd:N'.Nodup)(hc:X.calm=true)(hi:PI X (.Name x px) iter wi)
 (ht:∀ s H fp pins,PTs (compCx X scope cl N' s H fp pins) ifs tt) (he:∀ s H fp pins,PE (compCx X scope cl N' s H fp pins) elt te)
 (hs:∀ x,foldedSetIterable iter X.env x=pure x:=by intro _;rfl):PE X (.ListComp elt [⟨.Name x px,iter,ifs,0⟩] scope pos) (tComp js wi tt te):=by
 intro pins s σ H Q I h;rw[eval_ListComp];refine wpAny_comprehension_free (use:=none) rfl hs S.clos S.kind S.names (thn (hi pins s σ H _ I h) fun v s1 h1=>thn h1 fun itv s2 h2=>?_);obtain⟨it,fp,tn,J,H2,e,I2,T,st2,f2,k⟩:=h2;subst e;exact comp_core (RR:=fun acc C=>compPost (model X.prog X.w) X.A X.xe none (EP X pins σ Q) acc C) S nd hc ht he I2 T st2 f2 k fun D C s6 H6 m hm back _ _ q=>⟨m,hm,fun h' hs'=>⟨.ref D,H6,back h' hs',rfl,q⟩⟩
noncomputable def tCompSet(i:Nat)(t:TE):TS:=fun D σ H=>t σ H fun v H1=>D.nx (σ.set i (some v)) H1
theorem ps_compSet{i:Nat}{y:Str}{py spos:Pos}(S:CompScope X scope cl x js N')(nd:N'.Nodup)(hc:X.calm=true)(hi:PI X (.Name x px) iter wi)
 (ht:∀ s H fp pins,PTs (compCx X scope cl N' s H fp pins) ifs tt) (he:∀ s H fp pins,PE (compCx X scope cl N' s H fp pins) elt te)
 (hN:X.N.Nodup) (hy:X.N[i]?=some y) (hl:Loc X.env.scope y) (hf:X.fn y=true∨X.env.scope.names.lookup y=some .local)
 (hsw:swapsWith (.ListComp elt [⟨.Name x px,iter,ifs,0⟩] scope pos) (some (.Name y py)) spos.line X.env=pure true)
 (hs:∀ x,foldedSetIterable iter X.env x=pure x:=by intro _;rfl):PS X (.Assign [.Name y py] (.ListComp elt [⟨.Name x px,iter,ifs,0⟩] scope pos) spos) (tCompSet i (tComp js wi tt te)):=by
 intro pins s σ H D I h;rw[exec_Assign_Name_used _ _ _ _ hsw];refine wpAny_bind (wpAny_standAt (wpAny_bind ?_));show wpAny _ X.A (do let _ ← comprehension (.ListComp elt [⟨.Name x px,iter,ifs,0⟩] scope pos) scope X.env _ (newList []) false (eval iter X.env) (some (assign (.Name y py) X.env))) _ _ s;refine wpAny_bind (wpAny_mono (wpAny_comprehension_free (use:=some (assign (.Name y py) X.env)) (Q:=fun _ s'=>SP X pins D .next s') rfl hs S.clos S.kind S.names
  (thn (hi pins s σ H _ I h) fun v s1 h1=>thn h1 fun itv s2 h2=>?_)) (fun _ s' hq=>wpAny_pure (wpAny_pure hq)) fun _ _ e=>e)
 obtain⟨it,fp,tn,J,H2,e,I2,T,st2,f2,k⟩:=h2;subst e;refine comp_core (Q:=fun v H1=>D.nx (σ.set i (some v)) H1) (RR:=fun acc C=>compPost (model X.prog X.w) X.A X.xe (some (assign (.Name y py) X.env)) (fun _ s'=>SP X pins D .next s') acc C) S nd hc ht he I2 T st2 f2 k fun A C s6 H6 m hm back hC fC q=>?_;have I6:Inv X pins σ H6 s6:=back s6.heap (Heap.SameBut.refl ..);obtain⟨oC,es,ep,hoC,hdC,hr⟩:=id hm;have I7:Inv X (pins++[(C,oC)]) σ H6 s6:=I6.pins_of fun p hp=>by
  rcases List.mem_append.mp hp with z | z
  · exact I6.pin p (List.mem_append_right _ z)
  rw[List.mem_singleton.mp z];exact⟨hoC,hC,fC.2.1,fC.2.2.1,fun v e=>by rw[hdC]at e;cases e⟩
 show wpAny _ X.A (assign (.Name y py) X.env (.ref A)) _ _ s6;refine thn (pg_name hN hy hl hf _ s6 σ H6 (.ref A) (.ref A) (fun σ' H'=>σ'=σ.set i (some (.ref A))/\H'=H6) I7 rfl ⟨rfl,rfl⟩) fun _ s8 zz=>?_;obtain⟨σ8,H8,I8,e8,e9⟩:=zz;subst e8;subst e9;have h8:s8.heap.get? C=some oC:=(I8.pin (C,oC) (List.mem_append_right _ (List.mem_append_right _ (List.mem_singleton.mpr rfl)))).1;refine⟨m,⟨oC,es,ep,h8,hdC,hr⟩,fun h' hs'=>⟨_,H8,?_,q⟩⟩;have I9:Inv X pins (σ.set i (some (.ref A))) H8 s8:=I8.pins_of fun p hp=>I8.pin p (List.mem_append_right _ (List.mem_append_left _ hp));exact I9.turned (t':=s8.toks) (fun b o hb e=>(hs'.2 b hb).trans e) hC fC.2.1 fC.2.2.2.1 fC.2.2.2.2.1 fC.2.2.2.2.2
end
noncomputable def SubCl(cells:List (Str×Addr)):List (Str×Addr)->Prop
 | []=>True
 | p::r=>cells.lookup p.1=some p.2/\SubCl cells r
theorem SubCl.all{cells:List (Str×Addr)}:∀{cl:List (Str×Addr)},SubCl cells cl -> ∀ p∈cl,cells.lookup p.1=some p.2
 | _::_,h,p,hp=>by
   rcases List.mem_cons.mp hp with rfl | hp
   · exact h.1
   exact SubCl.all h.2 p hp
noncomputable def isCF(k:Option NameKind):Bool:=k == some .cell || k == some .free
theorem isCF_of{k:Option NameKind}(h:isCF k=true):k=some .cell∨k=some .free:=by
 unfold isCF at h;rw[Bool.or_eq_true]at h;exact h.imp beq_iff_eq.mp beq_iff_eq.mp
theorem CompScope.of{X:Cx}{scope:Scope}{cl:List (Str×Addr)}{x:Str}{js:List Nat}{N':List Str}(clos:closureFor scope X.env=pure cl)(kind:scope.kind=.function)(nocell:scope.names.all (fun y=>y.2 != .cell)=true)
 (names:scope.names.all (fun y=>y.2 != .local || scope.names.lookup y.1 == some .local)=true) (own:scope.names.lookup x=some .local) (sub:SubCl X.env.cells cl)
 (has:(relabel scope X.env).names.all (fun p=>!isCF (some p.2) || (cl.lookup p.1).isSome)=true) (nm:N'=x::js.map fun j=>X.N.getD j Str.empty)
 (see:js.all (fun j=>match X.N[j]? with | some y=>isCF (X.env.kindOf y) && isCF ((relabel scope X.env).names.lookup y) | none=>false)=true):CompScope X scope cl x js N' where
 clos:=clos
 kind:=kind
 nocell:=fun y hy=>by
  have:=List.all_eq_true.mp nocell y hy;exact bne_iff_ne.mp this
 names:=fun y hy e=>by
  have:=List.all_eq_true.mp names y hy;rw[e]at this;exact beq_iff_eq.mp (by simpa using this)
 own:=own
 sub:=sub.all
 has:=fun y h=>by
  have go:∀ k,(relabel scope X.env).names.lookup y=some k->isCF (some k)=true -> ∃ c,cl.lookup y=some c:=fun k hk hc=>by
   have:=List.all_eq_true.mp has (y,k) (PySem.mem_of_lookup hk);simp only[hc,Bool.not_true,Bool.false_or]at this;exact Option.isSome_iff_exists.mp this
  rcases h with h | h
  · exact go _ h rfl
  exact go _ h rfl
 nm:=nm
 see:=fun i j e=>by
  have:=List.all_eq_true.mp see j (List.mem_of_getElem? e);cases ey:X.N[j]? with
  | none=>rw[ey]at this;cases this
  | some y=>
    rw[ey]at this;rw[Bool.and_eq_true]at this;exact⟨y,rfl,isCF_of this.1,isCF_of this.2⟩
namespace B
section
variable{X:Cx}{scope:Scope}{cl:List (Str×Addr)}{x:Str}{N':List Str}{elt iter c:Expr}{px pos:Pos}{wi:TI}{te:TE}{tc:TT}
theorem comp(js:List Nat)(N':List Str)(S:CompScope X scope cl x js N')(nd:N'.Nodup)(hi:Bx (PI X (.Name x px) iter wi))(he:∀ s H fp pins,Bx (PE (compCx X scope cl N' s H fp pins) elt te))(hc:X.calm=true:=by rfl)
 (hs:∀ x,foldedSetIterable iter X.env x=pure x:=by intro _;rfl):Bx (PE X (.ListComp elt [⟨.Name x px,iter,[],0⟩] scope pos) (tComp js wi (fun _ H Q=>Q true H) te)):=
 ⟨pe_comp S nd hc hi.out (fun _ _ _ _=>pts_nil) (fun s H fp pins=>(he s H fp pins).out) hs⟩
theorem compSet(i:Nat)(js:List Nat)(N':List Str){y:Str}{py spos:Pos}(S:CompScope X scope cl x js N')(nd:N'.Nodup)(hN:X.N.Nodup)(hi:Bx (PI X (.Name x px) iter wi))(he:∀ s H fp pins,Bx (PE (compCx X scope cl N' s H fp pins) elt te))(hc:X.calm=true:=by rfl)
 (hy:X.N[i]?=some y:=by rfl) (hl:Loc X.env.scope y:=by first | exact Or.inl rfl | exact Or.inr rfl) (hf:X.fn y=true∨X.env.scope.names.lookup y=some .local:=by first | exact .inl rfl | exact .inr rfl)
 (hsw:swapsWith (.ListComp elt [⟨.Name x px,iter,[],0⟩] scope pos) (some (.Name y py)) spos.line X.env=pure true:=by rfl)
 (hs:∀ x,foldedSetIterable iter X.env x=pure x:=by intro _;rfl):Bx (PS X (.Assign [.Name y py] (.ListComp elt [⟨.Name x px,iter,[],0⟩] scope pos) spos) (tCompSet i (tComp js wi (fun _ H Q=>Q true H) te))):=
 ⟨ps_compSet S nd hc hi.out (fun _ _ _ _=>pts_nil) (fun s H fp pins=>(he s H fp pins).out) hN hy hl hf hsw hs⟩
end
end B
section
variable{X:Cx}
end
theorem wComp{σ:L2.St}{H:Hp}{Q:VK}{js:List Nat}{wi:TI}{tt:TT}{te:TE}(h:wi σ H fun J H1=>∀ D,H1 D=none -> ∃ W:Nat->Nat->L2.St->Hp->Prop,(∃ m,W 0 m (seen σ js) (upd H1 D (.lst []))) /\
 ∀ i m σ' H',W i m σ' H'->(J.stop i H'/\Q (.ref D) H')∨(J.go i H' /\ ∀ x H2,J.yld i H' x H2->tt (σ'.set 0 (some x)) H2 fun ok H3=>
   if ok=true then te (σ'.set 0 (some x)) H3 fun y H4=>∃ ys,H4 D=some (.lst ys)/\ys.length < sizeLine /\ ∃ m',m' < m/\W (i+1) m' (σ'.set 0 (some x)) (upd H4 D (.lst (ys++[y])))
   else ∃ m',m' < m/\W (i+1) m' (σ'.set 0 (some x)) H3)):tComp js wi tt te σ H Q:=h
theorem ix_tupK(K:W.Frag){X:Cx}(h:X.K=K:=by rfl):IxR X (rIxT K):=by subst h;exact ix_tup
mutual
inductive DatV(K:W.Frag)(H:Hp):V->PyData->Prop
 | non:DatV K H .non .none
 | bl (b:Bool):DatV K H (.bl b) (.bool b)
 | int (i:Int):DatV K H (.int i) (.int i)
 | str (x:PySem.Str):DatV K H (.str x) (.str x)
 | lst {a:Addr}{xs:List V}{ds:List PyData} (h:SqL K H a xs) (r:DatVs K H xs ds):DatV K H (.ref a) (.list ds)
 | tup {a:Addr}{xs:List V}{ds:List PyData} (h:SqT K H a xs) (r:DatVs K H xs ds):DatV K H (.ref a) (.tuple ds)
inductive DatVs(K:W.Frag)(H:Hp):List V->List PyData->Prop
 | nil:DatVs K H [] []
 | cons {x:V}{xs:List V}{d:PyData}{ds:List PyData} (h:DatV K H x d) (r:DatVs K H xs ds):DatVs K H (x::xs) (d::ds)
end
section
variable{X:Cx}{pins:List (Addr×Obj)}{σ:L2.St}{H:Hp}{s:Shared}
mutual
theorem reads_of(I:Inv X pins σ H s):∀{v:V}{d:PyData}{u:Value},DatV X.K H v d->RelV v u -> ∃ as,Reads s.heap u d as
 | _,_,u,.non,r=>by
   cases (show u=Value.none from r);exact⟨_,.none⟩
 | _,_,u,.bl b,r=>by
   cases (show u=Value.bool b from r);exact⟨_,.bool b⟩
 | _,_,u,.int i,r=>by
   obtain⟨t,e⟩:=(show ∃ t,u=Value.int i t from r);cases e;exact⟨_,.int i t⟩
 | _,_,u,.str x,r=>by
   obtain⟨t,e⟩:=(show ∃ t,u=Value.str x t from r);cases e;exact⟨_,.str x t⟩
 | _,_,u,.lst (a:=a) h q,r=>by
   cases (show u=Value.ref a from r);obtain⟨its,rv,⟨o,n,e,c,_,d⟩,_⟩:=I.list h;obtain⟨as,z⟩:=reads_all I q rv;exact⟨_,.list e c d (by simpa using z)⟩
 | _,_,u,.tup (a:=a) h q,r=>by
   cases (show u=Value.ref a from r);obtain⟨its,rv,⟨o,e,c,n,d⟩,_⟩:=I.tuple h;obtain⟨as,z⟩:=reads_all I q rv;exact⟨_,.tuple e c d (by simpa using z)⟩
theorem reads_all(I:Inv X pins σ H s):∀{xs:List V}{ds:List PyData}{us:List Value},DatVs X.K H xs ds->Vals xs us -> ∃ as,ReadsAll s.heap us ds as
 | _,_,_,.nil,.nil=>⟨_,.nil⟩
 | _,_,_,.cons h r,.cons q qs=>by
   obtain⟨a1,z1⟩:=reads_of I h q;obtain⟨a2,z2⟩:=reads_all I r qs;exact⟨_,.cons z1 z2⟩
end
noncomputable def rEqD(K:W.Frag):R2:=fun x y H Q=>∃ d e,DatV K H x d/\DatV K H y e/\d.canLay0=true/\e.canLay0=true/\d.depth<=60/\Q (.bl (PyData.eqv d e)) H
noncomputable def rNeD(K:W.Frag):R2:=fun x y H Q=>∃ d e,DatV K H x d/\DatV K H y e/\d.canLay0=true/\e.canLay0=true/\d.depth<=60/\Q (.bl (!PyData.eqv d e)) H
theorem op_eqD(K:W.Frag)(hu:X.A.units+64 < cLine)(hK:X.K=K:=by rfl):OpR X (compareOp .Eq) (rEqD K):=by
 subst hK;intro pins s σ H x y v u Q I rx ry h;obtain⟨d,e,hd,he,c1,c2,dp,q⟩:=h;obtain⟨as,r1⟩:=reads_of I hd rx;obtain⟨bs,r2⟩:=reads_of I he ry;exact SeqAt.compareEq_reads r1 r2 c1 c2 (by omega) ⟨.bl _,H,I,rfl,q⟩
theorem op_neD(K:W.Frag)(hu:X.A.units+64 < cLine)(hK:X.K=K:=by rfl):OpR X (compareOp .NotEq) (rNeD K):=by
 subst hK;intro pins s σ H x y v u Q I rx ry h;obtain⟨d,e,hd,he,c1,c2,dp,q⟩:=h;obtain⟨as,r1⟩:=reads_of I hd rx;obtain⟨bs,r2⟩:=reads_of I he ry;exact SeqAt.compareNe_reads r1 r2 c1 c2 (by omega) ⟨.bl _,H,I,rfl,q⟩
theorem wEqSame{K:W.Frag}{H:Hp}{Q:VK}{x y:V}{d:PyData}(hx:DatV K H x d)(hy:DatV K H y d)(c:d.canLay0=true)(dp:d.depth<=60)(q:Q (.bl true) H):rEqD K x y H Q:=
 ⟨d,d,hx,hy,c,c,dp,by rw[SeqAt.eqv_refl d c];exact q⟩
theorem wNeSame{K:W.Frag}{H:Hp}{Q:VK}{x y:V}{d:PyData}(hx:DatV K H x d)(hy:DatV K H y d)(c:d.canLay0=true)(dp:d.depth<=60)(q:Q (.bl false) H):rNeD K x y H Q:=
 ⟨d,d,hx,hy,c,c,dp,by rw[SeqAt.eqv_refl d c];exact q⟩
end
noncomputable def ViewO(v d:Addr):HO:=.ext fun h=>h.IsItemsView v d
noncomputable def over(n:Nat)(H N:Hp):Hp:=fun b=>if b < n then H b else N b
theorem over_old{n:Nat}{H N:Hp}{b:Addr}(h:b < n):over n H N b=H b:=if_pos h
theorem over_new{n:Nat}{H N:Hp}{b:Addr}(h:n<=b):over n H N b=N b:=if_neg (Nat.not_lt.mpr h)
section
variable{X:Cx}{pins:List (Addr×Obj)}{σ:L2.St}{H N:Hp}{s:Shared}{h':Heap}
theorem Inv.over{t':Nat}(I:Inv X pins σ H s)(k:∀ b u,s.heap.get? b=some u->h'.get? b=some u)(new:∀ b o,s.heap.objs.size<=b->N b=some o->ObjOk X.prog X.w (over s.heap.objs.size H N) h' b o) :
 Inv X pins σ (over s.heap.objs.size H N) { s with heap:=h',toks:=t' }:=by
 have lt:∀ b o,H b=some o->b < s.heap.objs.size:=fun b o e=>I.hok.lt e;refine I.un ⟨fun b u q _ _ _=>k b u q,fun b u q _ _ _=>⟨u.slots,k b u q⟩,fun b u q n _=>?_,fun b u q _=>⟨u,k b u q⟩,fun b xs q=>?_,fun b u xs q=>?_,fun b ps q=>⟨#[],?_⟩⟩ fun b o e=>?_
 · rw[over_old (Heap.lt_size q)];exact n
 · rw[over_old (lt _ _ q)];exact q
 · rw[over_old (lt _ _ q)];exact q
 · rw[over_old (lt _ _ q),q];simp
 by_cases hb:b < s.heap.objs.size
 · rw[over_old hb]at e
   exact(I.hok b o e).stay (fun c v _ q=>k c v q) (fun c q=>by rw[over_old (lt _ _ q)];exact q) fun c xs q=>by rw[over_old (lt _ _ q)];exact q
 have hb:=Nat.not_lt.mp hb;rw[over_new hb]at e;exact new b o hb e
end
noncomputable def newIt(l:Addr)(as:List Addr)(kvs:List (Key×V)):Hp:=fun b=>if b=l then some (.lst (as.map V.ref))else((as.zip kvs).find? fun p=>decide (p.1=b)).map fun p=>.tup [kV p.2.1,p.2.2]
theorem newIt_at{l:Addr}{as:List Addr}{kvs:List (Key×V)}(nd:as.Nodup):∀{j:Nat}{a:Addr}{k:Key}{x:V},a≠l->as[j]?=some a->kvs[j]?=some (k,x)->newIt l as kvs a=some (.tup [kV k,x]):=by
 intro j a k x hl h1 h2;unfold newIt;rw[if_neg hl];have key:∀(as:List Addr) (kvs:List (Key×V)) (j:Nat),as.Nodup->as[j]?=some a->kvs[j]?=some (k,x)->((as.zip kvs).find? fun p=>decide (p.1=a))=some (a,(k,x)):=by
  intro as
  induction as with
  | nil=>intro kvs j _ h;simp at h
  | cons b as ih=>
    intro kvs j nd h1 h2;cases kvs with
    | nil=>simp at h2
    | cons p kvs=>
      cases j with
      | zero=>
        simp at h1 h2;subst h1;subst h2;simp
      | succ j=>
        simp at h1 h2;have hm:a∈as:=List.mem_of_getElem? h1;have hne:b≠a:=fun e=>(List.nodup_cons.mp nd).1 (e ▸ hm);rw[List.zip_cons_cons,List.find?_cons_of_neg (by simpa using hne)]
        exact ih kvs j (List.nodup_cons.mp nd).2 h1 h2
 rw[key as kvs j nd h1 h2]
 rfl
theorem newIt_inv{l:Addr}{as:List Addr}{kvs:List (Key×V)}{b:Addr}{o:HO}(hl:as.length=kvs.length)(h:newIt l as kvs b=some o):(b=l/\o=.lst (as.map V.ref)) ∨ ∃(j:Nat) (k:Key) (x:V),as[j]?=some b/\kvs[j]?=some (k,x)/\o=.tup [kV k,x]:=by
 unfold newIt at h;split at h
 · rename_i e
   exact .inl ⟨e,(Option.some.inj h).symm⟩
 obtain⟨p,hp,e⟩:=Option.map_eq_some_iff.mp h;have hm:=List.mem_of_find?_eq_some hp;have hb0:decide (p.1=b)=true:=List.find?_some (p:=fun p:Addr×(Key×V)=>decide (p.1=b)) hp;have hb:=of_decide_eq_true hb0;obtain⟨j,hj⟩:=List.mem_iff_getElem?.mp hm;rw[List.getElem?_zip_eq_some]at hj;exact .inr ⟨j,p.2.1,p.2.2,by rw[← hb];exact hj.1,hj.2,e.symm⟩
theorem kv_get:∀{kvs:List (Key×V)}{vs:List (Key×Value)}{j:Nat}{k:Key}{y:Value},KV kvs vs->vs[j]?=some (k,y) -> ∃ x,kvs[j]?=some (k,x)/\RelV x y
 | _,_,_,_,_,.nil,e=>by simp at e
 | _,_,0,_,_,.cons (a:=a) r _,e=>by
   simp at e;subst e;exact⟨a.2,by rw[List.getElem?_cons_zero];exact congrArg some (Prod.ext r.1 rfl),r.2⟩
 | _,_,j+1,_,_,.cons _ t,e=>by
   obtain⟨x,h1,h2⟩:=kv_get (j:=j) t (by simpa using e)
   exact⟨x,by simpa using h1,h2⟩
theorem kV_rel{k:Key}{v:Value}(h:keyIs k v=true):RelV (kV k) v:=by
 rcases keyIs_shape h with ⟨i,t,rfl,rfl⟩ | ⟨x,t,rfl,rfl⟩
 · exact⟨t,rfl⟩
 exact⟨t,rfl⟩
theorem vals_refs:∀ as:List Addr,Vals (as.map V.ref) (as.map Value.ref)
 | []=>.nil
 | _::as=>.cons rfl (vals_refs as)
section
variable{X:Cx}
theorem call_list_items:CallR X (.type "list") (fun xs H Q=>∃ v d kvs,xs=[.ref v]/\H v=some (ViewO v d)/\H d=some (.dK kvs)/\X.calm=true /\ ∀(l:Addr) (as:List Addr) (H':Hp),Same H H'->H l=none->H' l=some (.lst (as.map V.ref))->as.length=kvs.length ->
 (∀(j:Nat) (a:Addr),as[j]?=some a->H a=none /\ ∃ k x,kvs[j]?=some (k,x)/\H' a=some (.tup [kV k,x]))->Q (.ref l) H'):=by
 intro pins s σ H xs us Q I r h;obtain⟨v,d,kvs,rfl,hv,hd,hc,q⟩:=h;obtain⟨u,rfl,rx⟩:=vals1 r;cases rx;obtain⟨pv,_,_⟩:=(show ObjOk X.prog X.w H s.heap v (ViewO v d)from I.hok v _ hv);obtain⟨z,hsys,vs,rel,dd⟩:=dk_rd I.hok (.inl hd);obtain⟨ep,hat⟩:=dd.dictAt;have lenKV:kvs.length=vs.length:=Paired.length rel;refine W.kdx_call (knd:=mixKind X.prog X.w) (I.ok.hd hc) pv hat (by omega) fun h' tk acc c as hk hS hl hG hacc=>?_
 have hl':as.length=kvs.length:=by omega
 have nd:as.Nodup:=hG.rise.imp fun h=>Nat.ne_of_lt h;have ab:∀ a∈as,s.heap.objs.size < a:=hG.above;have get:∀(j:Nat) (a:Addr),as[j]?=some a -> ∃ key k x y,kvs[j]?=some (k,x)/\keyIs k key=true/\RelV x y/\h'.get? a=some { cls:=.type "tuple",data:=.seq #[key,y] }:=fun j a e=>by
  obtain⟨key,k,y,e1,e2,e3⟩:=hG.pairs j a e;obtain⟨x,h1,h2⟩:=kv_get rel e1;exact⟨key,k,x,y,h1,e2,h2,e3⟩
 have I':=Inv.over (N:=newIt s.heap.objs.size as kvs) (t':=tk) I hk fun b o hb e=>by
  rcases newIt_inv hl' e with ⟨rfl,rfl⟩ | ⟨j,k,x,e1,e2,rfl⟩
  · refine⟨by rw[List.length_map];omega,as.map Value.ref,c,vals_refs as,?_⟩
    have ea:(as.map Value.ref).toArray=acc:=by rw[← hacc]
    rw[ea];exact hS
  obtain⟨key,k',x',y,g1,g2,g3,g4⟩:=get j b e1;rw[e2]at g1;cases g1;exact⟨by show(2:Nat)<=sizeLine;decide,[key,y],.cons (kV_rel g2) (.cons g3 .nil),_,g4,rfl,_,rfl⟩
 have lt:∀ b o,H b=some o->b < s.heap.objs.size:=fun b o e=>I.hok.lt e;refine⟨.ref s.heap.objs.size,_,I',rfl,q s.heap.objs.size as _ (fun b o e=>by rw[over_old (lt b o e)];exact e) (I.hok.fresh (Nat.le_refl _)) ?_ hl' fun j a e=>?_⟩
 · rw[over_new (Nat.le_refl _)]
   exact if_pos rfl
 have ha:=ab a (List.mem_of_getElem? e);obtain⟨key,k,x,y,g1,_⟩:=get j a e;exact⟨I.hok.fresh (Nat.le_of_lt ha),k,x,g1,by rw[over_new (Nat.le_of_lt ha)];exact newIt_at nd (Nat.ne_of_gt ha) e g1⟩
end
section
variable{X:Cx}{o:Expr}{apos cpos:Pos}{td:TE}
noncomputable def tItems(td:TE):TE:=fun σ H Q=>td σ H fun x H1=>∃ a kvs,x=.ref a/\H1 a=some (.dK kvs) /\ ∀ v,H1 v=none->Q (.ref v) (upd H1 v (ViewO v a))
theorem pe_items(ho:PE X o td)(hbase:attributeBase o "items" X.env (eval o X.env)=eval o X.env:=by rfl)
 (hfew:((backTo cpos (starEach [] X.env)).all (fun x=>!x.1) && (backToKw cpos (keywordEach [] X.env)).all (fun x=>x.1.isSome) && decide (([]:List Expr).length+([]:List Keyword).length+(if([]:List Keyword).isEmpty then 0 else 1) < 30))=true:=by rfl)
 (hline:(apos.endLine == cpos.line)=true:=by rfl):PE X (.Call (.Attribute o "items" apos) [] [] cpos) (tItems td):=by
 intro pins s σ H Q I h;refine wpAny_Call_method hbase hfew hline PySem.F.plainAttrs_dict PySem.F.slot_dict_items PySem.F.type_dict_items (thn (ho pins s σ H _ I h) fun u s1 zz=>?_);obtain⟨x,H1,I1,rx,a,kvs,ex,ha,q1⟩:=zz;subst ex;obtain rfl:u=Value.ref a:=rx;obtain⟨t1,t2,_⟩:=isD_at I1 (.inl ⟨kvs,.inl ha⟩);refine⟨t1,t2,?_⟩;obtain⟨z,hsys,vs,rel,dd⟩:=dk_rd I1.hok (.inl ha);have e0:backTo cpos (starEach [] X.env)=[]:=rfl;rw[e0];refine Calls.callWith_builtin rfl (PySem.evalArgs_none ?_);have lay:s1.heap.objs.size<=s1.heap.objs.size:=Nat.le_refl _;refine call_meetsIn PySem.F.slot_dict_items t1 PySem.F.entry_dict_items (PySem.F.args_dict_items_1 _) (meets_dict_items (mixKind X.prog X.w) a hsys) ⟨⟨vs,dd⟩,?_⟩;refine⟨.ref s1.heap.objs.size,upd H1 s1.heap.objs.size (ViewO s1.heap.objs.size a),I1.laid (t':=s1.toks) (fun b u e=>Heap.get?_push_of_some _ e) lay ?_,rfl,q1 _ (I1.hok.fresh lay)⟩;refine⟨⟨_,Heap.get?_push_size _ rfl,rfl,rfl⟩,⟨_,Heap.get?_push_size _ rfl⟩,fun h1 h2 ⟨o1,e1,c1,d1⟩ k=>⟨o1,k o1 e1,c1,d1⟩⟩
namespace B
theorem items(ho:Bx (PE X o td))(hbase:attributeBase o "items" X.env (eval o X.env)=eval o X.env:=by rfl)
 (hfew:((backTo cpos (starEach [] X.env)).all (fun x=>!x.1) && (backToKw cpos (keywordEach [] X.env)).all (fun x=>x.1.isSome) && decide (([]:List Expr).length+([]:List Keyword).length+(if([]:List Keyword).isEmpty then 0 else 1) < 30))=true:=by rfl)
 (hline:(apos.endLine == cpos.line)=true:=by rfl):Bx (PE X (.Call (.Attribute o "items" apos) [] [] cpos) (tItems td)):=⟨pe_items ho.out hbase hfew hline⟩
end B
end
structure Mt(P:Program)(w:World)(K:W.Frag)(mg:Str->Option Value)(base:Heap)(C:Addr)(m:Str)(k:Nat)(ps:List Str)(sp:Sp):Prop where
 ex:∃(f:Addr) (fd:FuncData),FnOk P w K mg base CX0 k f fd ps sp/\Meth K C m f/\Binds K fd ps []
structure Mkr(P:Program)(w:World)(K:W.Frag)(mg:Str->Option Value)(base:Heap)(C:Addr)(x:Str)(k:Nat)(ps:List Str)(sp:Sp):Prop where
 ex:∃(f:Addr) (fd:FuncData),FnOk P w K mg base CX0 k f fd ps sp/\Mk K C f/\mg x=some (.ref C)/\Binds K fd ps []
namespace B
section
variable{X:Cx}{x m f:Str}{p pos apos cpos tpos pos':Pos}{e o i value:Expr}{es:List Expr}{t:TA}{ta te ti tv td ty tx:TE}{k:Nat}{ps:List Str}{sp:Sp}{C:Addr}
theorem never{st:Stmt}:Bx (PS X st tNever):=⟨ps_never⟩
theorem gref{a:Addr}(h:X.mg x=some (.ref a))(hg:Gl X x:=by rfl)(hd:(x == ("__debug__":Str))=false:=by decide):Bx (PE X (.Name x pos) (tC (.ref a))):=⟨pe_glob hg h rfl hd⟩
theorem fld(he:Bx (PE X e ta))(hb:attributeBase e f X.env (eval e X.env)=eval e X.env:=by rfl):Bx (PE X (.Attribute e f pos) (tFld X.K ta f)):=⟨pe_fld he.out hb⟩
theorem sfld(ha:Bx (PE X o ta))(hv:Bx (PE X value tv))(hs:swapsWith value (some (.Attribute o f pos')) pos.line X.env=pure false:=by rfl):Bx (PS X (.Assign [.Attribute o f pos'] value pos) (sFld X.K ta tv f)):=⟨ps_fld ha.out hv.out hs⟩
theorem faug{op:Operator}{rd:V->V->Hp->VK->Prop}(hop:InOp X op rd)(ha:Bx (PE X o ta))(hv:Bx (PE X value tv)):Bx (PS X (.AugAssign (.Attribute o f tpos) op value pos) (sFldAug X.K ta tv rd f)):=⟨ps_fldaug ha.out hv.out hop⟩
theorem dnew:Bx (PE X (.Dict [] [] pos) tDNewK):=⟨pe_dnewK⟩
theorem dput(hu:X.A.units+1 < cLine)(ho:Bx (PE X o td))(hi:Bx (PE X i ty))(hv:Bx (PE X value tv))(hs:swapsWith value (some (.Subscript o i pos')) pos.line X.env=pure false:=by rfl):Bx (PS X (.Assign [.Subscript o i pos'] value pos) (sDPut td ty tv)):=⟨ps_dput hu ho.out hi.out hv.out hs⟩
theorem m1{m:Str}(base:attributeBase o m X.env (eval o X.env)=eval o X.env:=by rfl)(h:plainE e=true:=by rfl)(line:(apos.endLine == cpos.line)=true:=by rfl):M1 X o m apos e cpos:=by
 have t:backTo cpos (starEach [e] X.env)=[(false,eval e X.env)]:=by rw[star_of h];rfl
 exact⟨base,by rw[t];rfl,line,t⟩
theorem dget1(hu:X.A.units+1 < cLine)(ho:Bx (PE X o td))(he:Bx (PE X e ty))(m:M1 X o "get" apos e cpos:=by exact m1):Bx (PE X (.Call (.Attribute o "get" apos) [e] [] cpos) (tDGet1 td ty)):=⟨pe_dget1 hu ho.out he.out m⟩
theorem meth(he:Bx (PE X o ta))(c:Cls X.K C)(M:Mt X.prog X.w X.K X.mg X.base C m k ps sp)(hr:Room k X.A)(ha:Bx (PA X (e::es) t))(h1:plainE e=true:=by rfl)(h2:es.all plainE=true:=by rfl)
 {pl:Sem Bool} (ht':eval (.Call (.Attribute o m apos) (e::es) [] pos) X.env=(do
  let ov ← eval o X.env
  standAt apos.atName
  let(f,first) ← holding [ov] (getMethod ov m pl)
  callWith pos f first (backTo pos (starEach (e::es) X.env)) (backToKw pos (keywordEach [] X.env))):=by rfl) :
 Bx (PE X (.Call (.Attribute o m apos) (e::es) [] pos) (tMeth C m sp [] E0 ta t)):=by
 obtain⟨f,fd,G,hm,b⟩:=M.ex;exact⟨pe_meth he.out c hm G hr b .nil pass0 ha.out (star_of h1) (star_any h2) ht'⟩
theorem make(M:Mkr X.prog X.w X.K X.mg X.base C x k ps sp)(hr:Room (k+1) X.A)(ha:Bx (PA X (e::es) t))(hg:Gl X x:=by rfl)(hdb:(x == ("__debug__":Str))=false:=by decide)(h1:plainE e=true:=by rfl)(h2:es.all plainE=true:=by rfl) :
 Bx (PE X (.Call (.Name x p) (e::es) [] pos) (tMake C sp [] E0 t)):=by
 obtain⟨f,fd,G,M,hm,b⟩:=M.ex;exact⟨pe_make M G hr hg hm b .nil pass0 ha.out hdb (star_of h1) (star_any h2)⟩
end
end B
theorem b_list:bootBuiltins "list"=some (.type "list"):=by decide +kernel
namespace B
theorem meth0{X:Cx}{m:Str}{apos pos:Pos}{o:Expr}{ta:TE}{k:Nat}{ps:List Str}{sp:Sp}{C:Addr}(he:Bx (PE X o ta))(c:Cls X.K C)(M:Mt X.prog X.w X.K X.mg X.base C m k ps sp)(hr:Room k X.A){pl:Sem Bool}
 (ht':eval (.Call (.Attribute o m apos) [] [] pos) X.env=(do
  let ov ← eval o X.env
  standAt apos.atName
  let(f,first) ← holding [ov] (getMethod ov m pl)
  callWith pos f first (backTo pos (starEach [] X.env)) (backToKw pos (keywordEach [] X.env))):=by rfl) :
 Bx (PE X (.Call (.Attribute o m apos) [] [] pos) (tMeth C m sp [] E0 ta tNil)):=by
 obtain⟨f,fd,G,hm,b⟩:=M.ex;exact⟨pe_meth0 he.out c hm G hr b .nil pass0 ht'⟩
end B
structure Dm(K:W.Frag)(C:Addr)(m qual:Str)(st:Stmt)(ps:List Str):Prop where
 ex:∃(f:Addr) (fd:FuncData),Fun K m qual st f fd/\Meth K C m f/\Binds K fd ps []
theorem Dm.mt{P:Program}{w:World}{K:W.Frag}{mg:Str->Option Value}{base:Heap}{C:Addr}{m qual:Str}{st:Stmt}{N ps:List Str}{k:Nat}{sp:Sp}(d:Dm K C m qual st ps)(S:FnScope N ps (defScope st))(len:∀ vs H Q E,sp vs H Q E->vs.length=ps.length)
 (hb:∀(f:Addr) (cdv:Value) (A:Around) (outer:List Env) (s:Shared) (H:Hp) (vs:List V) (Q:VK) (E:XK),Room k (A.deeper (envOfC qual (defScope st) s.heap.objs.size f cdv))->sp vs H Q E ->
  ∃ t,Bx (PSs (cxOf CX0 P w K mg base N qual (defScope st) f cdv A outer s H E).nox (defBody st) t)/\t { nx:=fun _ H'=>Q .non H',rt:=Q } (start N vs) H):Mt P w K mg base C m (k+1) ps sp:=by
 obtain⟨f,fd,F,hm,hb'⟩:=d.ex;exact⟨f,fd,F.ok S len (fun cdv A outer s H vs Q E hr h=>let⟨t,h1,h2⟩:=hb f cdv A outer s H vs Q E hr h;⟨t,h1.out,h2⟩),hm,hb'⟩
structure Dk(K:W.Frag)(mg:Str->Option Value)(C:Addr)(x qual:Str)(st:Stmt)(ps:List Str):Prop where
 ex:∃(f:Addr) (fd:FuncData),Fun K "__init__" qual st f fd/\Mk K C f/\mg x=some (.ref C)/\Binds K fd ps []
theorem Dk.mk'{P:Program}{w:World}{K:W.Frag}{mg:Str->Option Value}{base:Heap}{C:Addr}{x qual:Str}{st:Stmt}{N ps:List Str}{k:Nat}{sp:Sp}(d:Dk K mg C x qual st ps)(S:FnScope N ps (defScope st))(len:∀ vs H Q E,sp vs H Q E->vs.length=ps.length)
 (hb:∀(f:Addr) (cdv:Value) (A:Around) (outer:List Env) (s:Shared) (H:Hp) (vs:List V) (Q:VK) (E:XK),Room k (A.deeper (envOfC qual (defScope st) s.heap.objs.size f cdv))->sp vs H Q E ->
  ∃ t,Bx (PSs (cxOf CX0 P w K mg base N qual (defScope st) f cdv A outer s H E).nox (defBody st) t)/\t { nx:=fun _ H'=>Q .non H',rt:=Q } (start N vs) H):Mkr P w K mg base C x (k+1) ps sp:=by
 obtain⟨f,fd,F,hm,hg,hb'⟩:=d.ex;exact⟨f,fd,F.ok S len (fun cdv A outer s H vs Q E hr h=>let⟨t,h1,h2⟩:=hb f cdv A outer s H vs Q E hr h;⟨t,h1.out,h2⟩),hm,hg,hb'⟩
noncomputable abbrev MRow:=List (Int×Int)
noncomputable def kvs(r:MRow):List (Key×V):=r.map fun p=>((Sum.inl p.1:Key),V.int p.2)
noncomputable def rLook(r:MRow)(k:Int):Option Int:=(r.find? fun p=>decide (p.1=k)).map (·.2)
noncomputable def rPut(r:MRow)(k v:Int):MRow:=if(rLook r k).isSome=true then r.map (fun p=>if p.1=k then(p.1,v)else p)else r++[(k,v)]
noncomputable def rCut(r:MRow)(k:Int):MRow:=r.filter fun p=>decide (p.1≠k)
noncomputable def oV:Option Int->V
 | none=>.non
 | some i=>.int i
noncomputable abbrev ROk(r:MRow):Prop:=(r.map (·.1)).Nodup
theorem rLook_pos{p:Int×Int}{r:MRow}{k:Int}(e:p.1=k):rLook (p::r) k=some p.2:=by simp[rLook,List.find?_cons,e]
theorem rLook_neg{p:Int×Int}{r:MRow}{k:Int}(e:¬ p.1=k):rLook (p::r) k=rLook r k:=by simp[rLook,List.find?_cons,e]
theorem inlE{a b:Int}:((Sum.inl a:Key)=Sum.inl b) ↔ a=b:=⟨Sum.inl.inj,congrArg _⟩
theorem valV_kvs(k:Int):∀ r:MRow,valV (kvs r) (Sum.inl k:Key)=(rLook r k).map V.int
 | []=>rfl
 | p::r=>by
   show valV (((Sum.inl p.1:Key),V.int p.2)::kvs r) (Sum.inl k:Key)=_;by_cases e:p.1=k
   · rw[rLook_pos e,valV_pos (inlE.mpr e)];rfl
   rw[rLook_neg e,valV_neg (fun z=>e (inlE.mp z)),valV_kvs k r]
theorem kvs_any(r:MRow)(k:Int):((kvs r).any fun kv=>decide (kv.1=(Sum.inl k:Key)))=(rLook r k).isSome:=by
 rw[valV_any,valV_kvs];cases rLook r k <;> rfl
theorem putK_kvs(r:MRow)(k v:Int):putK (kvs r) (Sum.inl k:Key) (V.int v)=kvs (rPut r k v):=by
 unfold putK rPut;rw[kvs_any];split
 · unfold kvs
   rw[List.map_map,List.map_map];refine List.map_congr_left fun p _=>?_;show(if(Sum.inl p.1:Key)=Sum.inl k then _ else _)=_;by_cases e:p.1=k
   · rw[if_pos (inlE.mpr e)]
     show _=((Sum.inl (if p.1=k then(p.1,v)else p).1:Key),V.int (if p.1=k then(p.1,v)else p).2);rw[if_pos e]
   rw[if_neg (fun z=>e (inlE.mp z))];show _=((Sum.inl (if p.1=k then(p.1,v)else p).1:Key),V.int (if p.1=k then(p.1,v)else p).2);rw[if_neg e]
 unfold kvs;rw[List.map_append]
 rfl
theorem kvs_len(r:MRow):(kvs r).length=r.length:=List.length_map ..
theorem rLook_none_iff(k:Int):∀{r:MRow},rLook r k=none ↔ ¬ k∈r.map (·.1)
 | []=>by simp[rLook]
 | p::r=>by
   rw[List.map_cons,List.mem_cons];by_cases e:p.1=k
   · rw[rLook_pos e];simp[e]
   rw[rLook_neg e,rLook_none_iff k]
   constructor
   · intro h z
     rcases z with z | z
     · exact e z.symm
     exact h z
   intro h z;exact h (.inr z)
theorem keys_put_old{r:MRow}{k v:Int}(h:(rLook r k).isSome=true):(rPut r k v).map (·.1)=r.map (·.1):=by
 unfold rPut;rw[if_pos h,List.map_map];refine List.map_congr_left fun p _=>?_;show(if p.1=k then(p.1,v)else p).1=p.1;split <;> rfl
theorem rPut_new{r:MRow}{k v:Int}(h:rLook r k=none):rPut r k v=r++[(k,v)]:=by
 unfold rPut;rw[h]
 rfl
theorem rPut_ok{r:MRow}{k v:Int}(h:ROk r):ROk (rPut r k v):=by
 cases e:rLook r k with
 | some x=>rw[ROk,keys_put_old (by rw[e];rfl)];exact h
 | none=>
   rw[ROk,rPut_new e,List.map_append];exact nd_snoc h ((rLook_none_iff k).mp e)
theorem rPut_len{r:MRow}{k v:Int}:(rPut r k v).length=r.length+(if rLook r k=none then 1 else 0):=by
 cases e:rLook r k with
 | some x=>
   unfold rPut;rw[e];simp
 | none=>rw[rPut_new e];simp
theorem rCut_ok{r:MRow}{k:Int}(h:ROk r):ROk (rCut r k):=by
 have:(rCut r k).map (·.1)=(r.map (·.1)).filter fun a=>decide (a≠k):=by
  unfold rCut;rw[List.filter_map]
  rfl
 rw[ROk,this];exact List.Pairwise.filter _ h
theorem rCut_no:∀{r:MRow}{k:Int},¬ k∈r.map (·.1)->rCut r k=r
 | [],_,_=>rfl
 | p::r,k,h=>by
   rw[List.map_cons,List.mem_cons]at h;unfold rCut;rw[List.filter_cons,if_pos (by simp only[decide_eq_true_eq];exact fun z=>h (.inl z.symm))]
   exact congrArg _ (rCut_no fun z=>h (.inr z))
theorem rCut_len:∀{r:MRow}{k:Int},ROk r->(rCut r k).length+(if rLook r k=none then 0 else 1)=r.length
 | [],_,_=>rfl
 | p::r,k,h=>by
   obtain⟨h1,h2⟩:=List.nodup_cons.mp (show(p.1::r.map (·.1)).Nodup from h);by_cases e:p.1=k
   · have e2:rCut (p::r) k=rCut r k:=by
      unfold rCut;rw[List.filter_cons,if_neg (by simp[e])]
     rw[e2,rCut_no (by rw[← e];exact h1),rLook_pos e,if_neg (by simp)]
     rfl
   have e2:rCut (p::r) k=p::rCut r k:=by
    unfold rCut;rw[List.filter_cons,if_pos (by simp[e])]
   have ih:=rCut_len (k:=k) h2;rw[e2,rLook_neg e,List.length_cons,List.length_cons];omega
noncomputable abbrev MRows:=List MRow
noncomputable def plc(f m:Int)(n:Nat)(k:Int):Nat:=((k*f+m) % 65536 % (n:Int)).toNat
theorem plc_int{f m:Int}{n:Nat}{k:Int}(h:0 < n):((plc f m n k:Nat):Int)=(k*f+m) % 65536 % (n:Int):=by
 unfold plc;rw[Int.toNat_of_nonneg (Int.emod_nonneg _ (by omega))]
theorem plc_lt{f m:Int}{n:Nat}{k:Int}(h:0 < n):plc f m n k < n:=by
 have e:=plc_int (f:=f) (m:=m) (k:=k) h;have:=Int.emod_lt_of_pos ((k*f+m) % 65536) (show(0:Int) < n by omega)
 omega
noncomputable def tot(R:MRows):Nat:=(R.map List.length).sum
noncomputable def sRow(f m:Int)(R:MRows)(k:Int):MRow:=R.getD (plc f m R.length k) []
noncomputable def sLook(f m:Int)(R:MRows)(k:Int):Option Int:=rLook (sRow f m R k) k
noncomputable def sPut(f m:Int)(R:MRows)(k v:Int):MRows:=R.set (plc f m R.length k) (rPut (sRow f m R k) k v)
noncomputable def sCut(f m:Int)(R:MRows)(k:Int):MRows:=R.set (plc f m R.length k) (rCut (sRow f m R k) k)
theorem getD_get{R:MRows}{i:Nat}(h:i < R.length):R[i]?=some (R.getD i []):=by
 rw[List.getD_eq_getElem?_getD,List.getElem?_eq_getElem h]
 rfl
theorem tot_set:∀(R:MRows) (i:Nat) (r:MRow),i < R.length->tot (R.set i r)+(R.getD i []).length=tot R+r.length
 | [],i,r,h=>absurd h (Nat.not_lt_zero _)
 | a::R,0,r,_=>by
   show r.length+(R.map List.length).sum+a.length=a.length+(R.map List.length).sum+r.length;omega
 | a::R,i+1,r,h=>by
   have ih:=tot_set R i r (Nat.lt_of_succ_lt_succ h);have e:(a::R).getD (i+1) []=R.getD i []:=by simp
   rw[e];show a.length+tot (R.set i r)+_=a.length+tot R+r.length;omega
theorem len_le_tot:∀(R:MRows) (i:Nat),(R.getD i []).length<=tot R
 | [],i=>by simp
 | a::R,0=>by
   show a.length<=a.length+(R.map List.length).sum;omega
 | a::R,i+1=>by
   have ih:=len_le_tot R i;have e:(a::R).getD (i+1) []=R.getD i []:=by simp
   rw[e];show _<=a.length+tot R;omega
theorem tot_rep(n:Nat):tot (List.replicate n [])=0:=by
 unfold tot;rw[List.map_replicate];show(List.replicate n 0).sum=0;simp
theorem sPut_len{f m:Int}{R:MRows}{k v:Int}:(sPut f m R k v).length=R.length:=List.length_set ..
theorem sCut_len{f m:Int}{R:MRows}{k:Int}:(sCut f m R k).length=R.length:=List.length_set ..
theorem sPut_tot{f m:Int}{R:MRows}{k v:Int}(h:0 < R.length):tot (sPut f m R k v)=tot R+(if sLook f m R k=none then 1 else 0):=by
 have:=tot_set R _ (rPut (sRow f m R k) k v) (plc_lt (f:=f) (m:=m) (k:=k) h);rw[rPut_len]at this;unfold sPut sLook;unfold sRow at *;omega
theorem sCut_tot{f m:Int}{R:MRows}{k:Int}(h:0 < R.length)(ok:∀ r∈R,ROk r):tot (sCut f m R k)+(if sLook f m R k=none then 0 else 1)=tot R:=by
 have lt:=plc_lt (f:=f) (m:=m) (k:=k) h;have:=tot_set R _ (rCut (sRow f m R k) k) lt;have e:=rCut_len (r:=sRow f m R k) (k:=k) (ok _ (List.mem_of_getElem? (getD_get lt)));unfold sCut sLook;unfold sRow at *;omega
theorem set_ok{R:MRows}{i:Nat}{r:MRow}(ok:∀ r∈R,ROk r)(h:ROk r):∀ q∈R.set i r,ROk q:=fun q hq=>by
 rcases List.mem_or_eq_of_mem_set hq with z | z
 · exact ok q z
 rw[z];exact h
noncomputable def sfl(t L:Addr)(z:Int):List (Str×V):=[("mixer",.ref t),("rows",.ref L),("held",.int z)]
theorem n_mr:¬ (("mixer":Str)="rows"):=by decide +kernel
theorem n_mh:¬ (("mixer":Str)="held"):=by decide +kernel
theorem n_rh:¬ (("rows":Str)="held"):=by decide +kernel
theorem sfl_mk(t L:Addr)(z:Int):putF "held" (.int z) (putF "rows" (.ref L) (putF "mixer" (.ref t) []))=sfl t L z:=by
 show putF "held" (.int z) (if("mixer":Str)="rows" then _ else _)=_;rw[if_neg n_mr];show(if("mixer":Str)="held" then _ else _)=_;rw[if_neg n_mh];show _::(if("rows":Str)="held" then _ else _)=_;rw[if_neg n_rh]
 rfl
theorem sfl_mixer(t L:Addr)(z:Int):(sfl t L z).lookup ("mixer":Str)=some (.ref t):=by rw[← sfl_mk,lookup_putF,if_neg n_mh,lookup_putF,if_neg n_mr,lookup_putF,if_pos rfl]
theorem sfl_rows(t L:Addr)(z:Int):(sfl t L z).lookup ("rows":Str)=some (.ref L):=by rw[← sfl_mk,lookup_putF,if_neg n_rh,lookup_putF,if_pos rfl]
theorem sfl_held(t L:Addr)(z:Int):(sfl t L z).lookup ("held":Str)=some (.int z):=by rw[← sfl_mk,lookup_putF,if_pos rfl]
theorem sfl_put(t L:Addr)(z y:Int):putF "held" (.int y) (sfl t L z)=sfl t L y:=by
 show(if("mixer":Str)="held" then _ else _)=_;rw[if_neg n_mh];show _::(if("rows":Str)="held" then _ else _)=_;rw[if_neg n_rh];show _::_::(if("held":Str)="held" then _ else _)=_;rw[if_pos rfl]
 rfl
structure NoS(x:Str):Prop where
 n1:¬ x="mixer"
 n2:¬ x="rows"
 n3:¬ x="held"
theorem sfl_no(t L:Addr)(z:Int){x:Str}(h:NoS x):(sfl t L z).lookup x=none:=by
 rw[← sfl_mk,lookup_putF,if_neg h.n3,lookup_putF,if_neg h.n2,lookup_putF,if_neg h.n1]
 rfl
structure ShX(C:Addr)(H:Hp)(p:Addr)(f m:Int)(R:MRows)(t L:Addr)(ds:List Addr):Prop where
 ob:∃ dx,H p=some (.ins C dx (sfl t L (tot R)))
 mx:H t=some (.tup [.int f,.int m])
 bm:0<=f/\f<=65535
 rw:H L=some (.lst (ds.map V.ref))
 len:ds.length=R.length
 nd:ds.Nodup
 at_:∀(i:Nat) (d:Addr) (r:MRow),ds[i]?=some d->R[i]?=some r->H d=some (.dK (kvs r))
 ok:∀ r∈R,ROk r
 pos:0 < R.length
 top:R.length<=8192
noncomputable def Sh(C:Addr)(H:Hp)(p:Addr)(f m:Int)(R:MRows)(F:Addr->Prop):Prop:=∃ t L ds,ShX C H p f m R t L ds /\ ∀ b,F b ↔ (b=p∨b=L∨b∈ds)
noncomputable def Fr(F:Addr->Prop)(H H':Hp):Prop:=∀ b o,¬ F b->H b=some o->H' b=some o
theorem Fr.refl(F:Addr->Prop)(H:Hp):Fr F H H:=fun _ _ _ h=>h
theorem Fr.trans{F:Addr->Prop}{H H1 H2:Hp}(a:Fr F H H1)(b:Fr F H1 H2):Fr F H H2:=fun c o n h=>b c o n (a c o n h)
theorem Sh.live{C:Addr}{H:Hp}{p:Addr}{f m:Int}{R:MRows}{F:Addr->Prop}(S:Sh C H p f m R F){b:Addr}(h:F b):∃ o,H b=some o /\ ∀ xs,o ≠ .tup xs:=by
 obtain⟨t,L,ds,S,hF⟩:=S;rcases(hF b).mp h with rfl | rfl | h
 · obtain⟨dx,e⟩:=S.ob
   exact⟨_,e,fun xs z=>by cases z⟩
 · exact⟨_,S.rw,fun xs z=>by cases z⟩
 obtain⟨i,e⟩:=List.mem_iff_getElem?.mp h;have hi:i < R.length:=by
  rw[← S.len];exact(List.getElem?_eq_some_iff.mp e).1
 exact⟨_,S.at_ i b _ e (List.getElem?_eq_getElem hi),fun xs z=>by cases z⟩
theorem Sh.fresh{C:Addr}{H:Hp}{p:Addr}{f m:Int}{R:MRows}{F:Addr->Prop}(S:Sh C H p f m R F){b:Addr}(h:H b=none):¬ F b:=fun z=>by
 obtain⟨o,e,_⟩:=S.live z;rw[h]at e;cases e
theorem Sh.notup{C:Addr}{H:Hp}{p:Addr}{f m:Int}{R:MRows}{F:Addr->Prop}(S:Sh C H p f m R F){b:Addr}{xs:List V}(h:H b=some (.tup xs)):¬ F b:=fun z=>by
 obtain⟨o,e,n⟩:=S.live z;rw[h]at e;cases e;exact n _ rfl
theorem Sh.keep{C:Addr}{H H':Hp}{p:Addr}{f m:Int}{R:MRows}{F G:Addr->Prop}(S:Sh C H p f m R F)(k:Fr G H H')(d:∀ b,F b -> ¬ G b)(dt:∀ b xs,H b=some (.tup xs) -> ¬ G b):Sh C H' p f m R F:=by
 obtain⟨t,L,ds,S,hF⟩:=S;have hp:¬ G p:=d p ((hF p).mpr (.inl rfl));have hL:¬ G L:=d L ((hF L).mpr (.inr (.inl rfl)));refine⟨t,L,ds,⟨?_,k _ _ (dt _ _ S.mx) S.mx,S.bm,k _ _ hL S.rw,S.len,S.nd,fun i x r e1 e2=>k _ _ (d x ((hF x).mpr (.inr (.inr (List.mem_of_getElem? e1))))) (S.at_ i x r e1 e2),S.ok,S.pos,S.top⟩,hF⟩;obtain⟨dx,e⟩:=S.ob;exact⟨dx,k _ _ hp e⟩
theorem Sh.same{C:Addr}{H H':Hp}{p:Addr}{f m:Int}{R:MRows}{F:Addr->Prop}(S:Sh C H p f m R F)(k:Same H H'):Sh C H' p f m R F:=
 S.keep (G:=fun _=>False) (fun b o _ e=>k b o e) (fun _ _ z=>z) fun _ _ _ z=>z
theorem Sh.pos{C:Addr}{H:Hp}{p:Addr}{f m:Int}{R:MRows}{F:Addr->Prop}(S:Sh C H p f m R F):0 < R.length:=by
 obtain⟨t,L,ds,S,hF⟩:=S;exact S.pos
theorem Sh.top{C:Addr}{H:Hp}{p:Addr}{f m:Int}{R:MRows}{F:Addr->Prop}(S:Sh C H p f m R F):R.length<=8192:=by
 obtain⟨t,L,ds,S,hF⟩:=S;exact S.top
noncomputable def PrV(H:Hp)(v:V)(p:Int×Int):Prop:=∃ a,v=.ref a/\H a=some (.tup [.int p.1,.int p.2])
noncomputable abbrev Prs(H:Hp)(xs:List V)(r:MRow):Prop:=Paired (PrV H) xs r
theorem PrV.keep{H H':Hp}{v:V}{p:Int×Int}(h:PrV H v p)(k:∀ a xs,H a=some (.tup xs)->H' a=some (.tup xs)):PrV H' v p:=by
 obtain⟨a,e,h⟩:=h;exact⟨a,e,k a _ h⟩
theorem Prs.keep{H H':Hp}{xs:List V}{r:MRow}(h:Prs H xs r)(k:∀ a xs,H a=some (.tup xs)->H' a=some (.tup xs)):Prs H' xs r:=Paired.mapP h fun _ _ z=>z.keep k
noncomputable def spSPlace(C:Addr):Sp:=fun vs H Q _=>∃(p:Addr) (k f m:Int) (R:MRows) (F:Addr->Prop),vs=[.ref p,.int k]/\Sh C H p f m R F/\Q (.int (plc f m R.length k)) H
noncomputable def spSRowW(C:Addr):Sp:=fun vs H Q _=>∃(p:Addr) (k f m:Int) (R:MRows) (t L:Addr) (ds:List Addr),vs=[.ref p,.int k]/\ShX C H p f m R t L ds /\ ∀ d,ds[plc f m R.length k]?=some d->Q (.ref d) H
noncomputable def spSPut(C:Addr):Sp:=fun vs H Q _=>∃(p:Addr) (k v f m:Int) (R:MRows) (F:Addr->Prop),vs=[.ref p,.int k,.int v]/\Sh C H p f m R F/\tot R<=100000 /\ ∀ H',Sh C H' p f m (sPut f m R k v) F->Fr F H H'->Q (oV (sLook f m R k)) H'
noncomputable def spSLook(C:Addr):Sp:=fun vs H Q _=>∃(p:Addr) (k f m:Int) (R:MRows) (F:Addr->Prop),vs=[.ref p,.int k]/\Sh C H p f m R F/\Q (oV (sLook f m R k)) H
noncomputable def spSMany(C:Addr):Sp:=fun vs H Q _=>∃(p:Addr) (f m:Int) (R:MRows) (F:Addr->Prop),vs=[.ref p]/\Sh C H p f m R F/\Q (.int (tot R)) H
noncomputable def spSSize(C:Addr):Sp:=fun vs H Q _=>∃(p:Addr) (f m:Int) (R:MRows) (F:Addr->Prop),vs=[.ref p]/\Sh C H p f m R F/\Q (.int R.length) H
noncomputable def spSCheck(C:Addr):Sp:=fun vs H Q _=>∃(p:Addr) (i f m:Int) (R:MRows) (F:Addr->Prop),vs=[.ref p,.int i]/\Sh C H p f m R F/\0<=i/\i < R.length/\Q .non H
noncomputable def spSRow(C:Addr):Sp:=fun vs H Q _=>∃(p:Addr) (i:Nat) (f m:Int) (R:MRows) (F:Addr->Prop),vs=[.ref p,.int i]/\Sh C H p f m R F/\i < R.length /\ ∀ l xs H',Same H H'->H l=none->H' l=some (.lst xs)->Prs H' xs (R.getD i [])->Q (.ref l) H'
noncomputable def spSEmpty(C:Addr):Sp:=fun vs H Q _=>∃(p:Addr) (i:Nat) (f m:Int) (R:MRows) (F:Addr->Prop),vs=[.ref p,.int i]/\Sh C H p f m R F/\i < R.length /\
 ∀ l xs H' F',Fr F H H'->H l=none -> ¬ F' l->H' l=some (.lst xs)->Prs H' xs (R.getD i [])->Sh C H' p f m (R.set i []) F'->(∀ b,F' b->F b∨H b=none)->(∀ b,H' b=none->H b=none)->Q (.ref l) H'
noncomputable def isSize(n:Nat):Prop:=n∈[4,8,16,32,64,128,256,512,1024,2048,4096]
noncomputable def spSInit(C:Addr):Sp:=fun vs H Q _=>∃(x t dx:Addr) (n:Nat) (f m:Int),vs=[.ref x,.int n,.ref t]/\H x=some (.ins C dx [])/\H t=some (.tup [.int f,.int m])/\(0<=f/\f<=65535)/\isSize n /\
 ∀ H' F,Sh C H' x f m (List.replicate n []) F->(∀ b,F b->b=x∨H b=none)->(∀ b o,b≠x->H b=some o->H' b=some o)->Q .non H'
section
variable{D:Ends}{σ:L2.St}{H:Hp}{Q:VK}{v:V}{K:W.Frag}{C:Addr}{E:XK}
theorem wFld{ta:TE}{f:Str}(h:ta σ H fun x H1=>∃ a C dx fs v,x=.ref a/\H1 a=some (.ins C dx fs)/\Cls K C/\NoAttr K C f/\fs.lookup f=some v/\Q v H1):tFld K ta f σ H Q:=h
theorem wSFld{ta tv:TE}{f:Str}(h:tv σ H fun y H1=>ta σ H1 fun x H2=>∃ a C dx fs,x=.ref a/\H2 a=some (.ins C dx fs)/\Cls K C/\NoAttr K C f/\fs.length < 1000/\D.nx σ (upd H2 a (.ins C dx (putF f y fs)))):sFld K ta tv f D σ H:=h
theorem wMeth{m:Str}{sp:Sp}{ta:TE}{t:TA}(h:ta σ H fun x H1=>∃ a dx fs,x=.ref a/\H1 a=some (.ins C dx fs)/\fs.lookup m=none/\t σ H1 fun vs H2=>sp (x::(vs++[])) H2 Q E):tMeth C m sp [] E ta t σ H Q:=h
theorem wMake{sp:Sp}{t:TA}(h:t σ H fun vs H1=>∀ x dx,H1 x=none->H1 dx=none->dx≠x->sp (.ref x::(vs++[])) (upd (upd H1 dx (.own x)) x (.ins C dx [])) (fun v H2=>v=.non/\Q (.ref x) H2) E):tMake C sp [] E t σ H Q:=h
theorem wS{p:Addr}{f m:Int}{R:MRows}{F:Addr->Prop}{x:Str}{P:Prop}(S:Sh C H p f m R F)(hn:NoS x)(h:P):∃ a dx fs,V.ref p=.ref a/\H a=some (.ins C dx fs)/\fs.lookup x=none/\P:=by
 obtain⟨t,L,ds,S,_⟩:=S;obtain⟨dx,e⟩:=S.ob;exact⟨p,dx,_,rfl,e,sfl_no _ _ _ hn,h⟩
theorem wSPlace{p:Addr}{k f m:Int}{R:MRows}{F:Addr->Prop}(S:Sh C H p f m R F)(q:Q (.int (plc f m R.length k)) H):spSPlace C (V.ref p::([V.int k]++[])) H Q E:=⟨p,k,f,m,R,F,rfl,S,q⟩
theorem wSPut{p:Addr}{k y f m:Int}{R:MRows}{F:Addr->Prop}(S:Sh C H p f m R F)(hl:tot R<=100000)(q:∀ H',Sh C H' p f m (sPut f m R k y) F->Fr F H H'->Q (oV (sLook f m R k)) H'):spSPut C (V.ref p::([V.int k,V.int y]++[])) H Q E:=⟨p,k,y,f,m,R,F,rfl,S,hl,q⟩
theorem wSLook{p:Addr}{k f m:Int}{R:MRows}{F:Addr->Prop}(S:Sh C H p f m R F)(q:Q (oV (sLook f m R k)) H):spSLook C (V.ref p::([V.int k]++[])) H Q E:=⟨p,k,f,m,R,F,rfl,S,q⟩
theorem wSMany{p:Addr}{f m:Int}{R:MRows}{F:Addr->Prop}(S:Sh C H p f m R F)(q:Q (.int (tot R)) H):spSMany C (V.ref p::([]++[])) H Q E:=⟨p,f,m,R,F,rfl,S,q⟩
theorem wSSize{p:Addr}{f m:Int}{R:MRows}{F:Addr->Prop}(S:Sh C H p f m R F)(q:Q (.int R.length) H):spSSize C (V.ref p::([]++[])) H Q E:=⟨p,f,m,R,F,rfl,S,q⟩
theorem wSRow{p:Addr}{i:Int}{f m:Int}{R:MRows}{F:Addr->Prop}(S:Sh C H p f m R F)(i0:0<=i)(hi:i < R.length)(q:∀ l xs H',Same H H'->H l=none->H' l=some (.lst xs)->Prs H' xs (R.getD i.toNat [])->Q (.ref l) H'):spSRow C (V.ref p::([V.int i]++[])) H Q E:=
 ⟨p,i.toNat,f,m,R,F,by rw[Int.toNat_of_nonneg i0];rfl,S,by omega,q⟩
theorem wSEmpty{p:Addr}{i:Int}{f m:Int}{R:MRows}{F:Addr->Prop}(S:Sh C H p f m R F)(i0:0<=i)(hi:i < R.length)
 (q:∀ l xs H' F',Fr F H H'->H l=none -> ¬ F' l->H' l=some (.lst xs)->Prs H' xs (R.getD i.toNat [])->Sh C H' p f m (R.set i.toNat []) F'->(∀ b,F' b->F b∨H b=none)->(∀ b,H' b=none->H b=none)->Q (.ref l) H'):spSEmpty C (V.ref p::([V.int i]++[])) H Q E:=
 ⟨p,i.toNat,f,m,R,F,by rw[Int.toNat_of_nonneg i0];rfl,S,by omega,q⟩
theorem wShelf{Qf:Addr->Hp->Prop}{t:Addr}{n:Int}{f m:Int}(ht:H t=some (.tup [.int f,.int m]))(bf:0<=f/\f<=65535)(n0:0<=n)(hn:isSize n.toNat)
 (q:∀ p H' F,Sh C H' p f m (List.replicate n.toNat []) F->(∀ b,F b->H b=none)->Same H H'->Qf p H') :
 ∀ x dx,H x=none->H dx=none->dx≠x->spSInit C (V.ref x::([V.int n,V.ref t]++[])) (upd (upd H dx (.own x)) x (.ins C dx [])) (fun v H2=>v=.non/\Qf x H2) E:=fun x dx hx hdx hne=>by
 have s0:Same H (upd (upd H dx (.own x)) x (.ins C dx [])):=(Same.new hdx).trans (Same.new (by rw[upd_ne hne.symm];exact hx))
 refine⟨x,t,dx,n.toNat,f,m,by rw[Int.toNat_of_nonneg n0];rfl,upd_same,s0 _ _ ht,bf,hn,fun H' F S g k=>⟨rfl,q x H' F S (fun b hb=>?_) fun b o e=>k b o (ne_of_none e hx) (s0 b o e)⟩⟩
 rcases g b hb with rfl | z
 · exact hx
 exact s0.free z
end
noncomputable def CN(Pv:Nat->L2.St->Hp->Prop)(n i:Nat)(D:Addr)(σ:L2.St)(y:V)(H4:Hp):Prop:=∃ ys,H4 D=some (.lst ys)/\ys.length < sizeLine /\ ∃ m',m' < n - i/\(m'=n - (i+1)/\i+1<=n/\Pv (i+1) σ (upd H4 D (.lst (ys++[y]))))
noncomputable def CO(Pv:Nat->L2.St->Hp->Prop)(n i:Nat)(σ:L2.St)(H3:Hp):Prop:=∃ m',m' < n - i/\(m'=n - (i+1)/\i+1<=n/\Pv (i+1) σ H3)
theorem CN.mk{Pv:Nat->L2.St->Hp->Prop}{n i:Nat}{D:Addr}{σ:L2.St}{y:V}{H4:Hp}{ys:List V}(hi:i < n)(hD:H4 D=some (.lst ys))(hl:ys.length < sizeLine)(h:Pv (i+1) σ (upd H4 D (.lst (ys++[y])))):CN Pv n i D σ y H4:=
 ⟨ys,hD,hl,n - (i+1),by omega,rfl,hi,h⟩
section
variable{K:W.Frag}{n:Nat}{lo:Int}{a D:Addr}{xs:List V}{σ0:L2.St}{H1:Hp}{Q:VK}{tt:TT}{te:TE}
theorem comp_range{Qf:Hp->Prop}(Pv:Nat->L2.St->Hp->Prop)(h0:Pv 0 σ0 H1)
 (step:∀ i σ' H',i < n->Pv i σ' H'->tt (σ'.set 0 (some (.int (lo+i)))) H' fun ok H3=>if ok=true then te (σ'.set 0 (some (.int (lo+i)))) H3 (fun y H4=>CN Pv n i D (σ'.set 0 (some (.int (lo+i)))) y H4)else CO Pv n i (σ'.set 0 (some (.int (lo+i)))) H3)
 (fin:∀ σ H,Pv n σ H->Qf H) :
 ∃ W:Nat->Nat->L2.St->Hp->Prop,(∃ m,W 0 m σ0 H1) /\ ∀ i m σ' H',W i m σ' H'->((Itr lo n).stop i H'/\Qf H')∨((Itr lo n).go i H' /\ ∀ x H2,(Itr lo n).yld i H' x H2->tt (σ'.set 0 (some x)) H2 fun ok H3=>
   if ok=true then te (σ'.set 0 (some x)) H3 fun y H4=>∃ ys,H4 D=some (.lst ys)/\ys.length < sizeLine /\ ∃ m',m' < m/\W (i+1) m' (σ'.set 0 (some x)) (upd H4 D (.lst (ys++[y])))
   else ∃ m',m' < m/\W (i+1) m' (σ'.set 0 (some x)) H3):=by
 refine⟨fun i m σ H=>m=n - i/\i<=n/\Pv i σ H,⟨n,by omega,Nat.zero_le _,h0⟩,?_⟩
 rintro i m σ' H' ⟨rfl,hi,p⟩;by_cases hlt:i < n
 · refine .inr ⟨hlt,fun x H2 y=>?_⟩
   obtain⟨rfl,rfl⟩:=y;exact step i σ' _ hlt p
 have e:i=n:=by omega
 subst e;exact .inl ⟨Nat.le_refl _,fin _ _ p⟩
theorem comp_rangeU{Qf:Hp->Prop}(Pv:Nat->L2.St->Hp->Prop)(h0:Pv 0 σ0 H1)
 (step:∀ i σ' H',i < n->Pv i σ' H'->te (σ'.set 0 (some (.int (lo+i)))) H' (fun y H4=>CN Pv n i D (σ'.set 0 (some (.int (lo+i)))) y H4))
 (fin:∀ σ H,Pv n σ H->Qf H) :
 ∃ W:Nat->Nat->L2.St->Hp->Prop,(∃ m,W 0 m σ0 H1) /\ ∀ i m σ' H',W i m σ' H'->((Itr lo n).stop i H'/\Qf H')∨((Itr lo n).go i H' /\ ∀ x H2,(Itr lo n).yld i H' x H2 ->
   if true=true then te (σ'.set 0 (some x)) H2 fun y H4=>∃ ys,H4 D=some (.lst ys)/\ys.length < sizeLine /\ ∃ m',m' < m/\W (i+1) m' (σ'.set 0 (some x)) (upd H4 D (.lst (ys++[y])))
   else ∃ m',m' < m/\W (i+1) m' (σ'.set 0 (some x)) H2):=
 comp_range (tt:=fun _ H Q=>Q true H) Pv h0 (fun i σ' H' hi p=>iteT (step i σ' H' hi p)) fin
theorem comp_list{Qf:Hp->Prop}(Pv:Nat->L2.St->Hp->Prop)(h0:Pv 0 σ0 H1)(hl:∀ i σ H,i<=xs.length->Pv i σ H->SqL K H a xs)
 (step:∀ i x σ' H',xs[i]?=some x->i < xs.length->Pv i σ' H'->tt (σ'.set 0 (some x)) H' fun ok H3=>if ok=true then te (σ'.set 0 (some x)) H3 (fun y H4=>CN Pv xs.length i D (σ'.set 0 (some x)) y H4)else CO Pv xs.length i (σ'.set 0 (some x)) H3)
 (fin:∀ σ H,Pv xs.length σ H->Qf H) :
 ∃ W:Nat->Nat->L2.St->Hp->Prop,(∃ m,W 0 m σ0 H1) /\ ∀ i m σ' H',W i m σ' H'->((Itl K a).stop i H'/\Qf H')∨((Itl K a).go i H' /\ ∀ x H2,(Itl K a).yld i H' x H2->tt (σ'.set 0 (some x)) H2 fun ok H3=>
   if ok=true then te (σ'.set 0 (some x)) H3 fun y H4=>∃ ys,H4 D=some (.lst ys)/\ys.length < sizeLine /\ ∃ m',m' < m/\W (i+1) m' (σ'.set 0 (some x)) (upd H4 D (.lst (ys++[y])))
   else ∃ m',m' < m/\W (i+1) m' (σ'.set 0 (some x)) H3):=by
 refine⟨fun i m σ H=>m=xs.length - i/\i<=xs.length/\Pv i σ H,⟨xs.length,by omega,Nat.zero_le _,h0⟩,?_⟩
 rintro i m σ' H' ⟨rfl,hi,p⟩;have q:=hl i σ' H' hi p;by_cases hlt:i < xs.length
 · refine .inr ⟨⟨xs,xs[i],q,by simp[hlt]⟩,fun x H2 y=>?_⟩
   obtain⟨rfl,y⟩:=y;exact step i x σ' _ (y xs q) hlt p
 have e:i=xs.length:=by omega
 subst e;exact .inl ⟨⟨xs,q,Nat.le_refl _⟩,fin _ _ p⟩
theorem comp_listU{Qf:Hp->Prop}(Pv:Nat->L2.St->Hp->Prop)(h0:Pv 0 σ0 H1)(hl:∀ i σ H,i<=xs.length->Pv i σ H->SqL K H a xs)
 (step:∀ i x σ' H',xs[i]?=some x->i < xs.length->Pv i σ' H'->te (σ'.set 0 (some x)) H' (fun y H4=>CN Pv xs.length i D (σ'.set 0 (some x)) y H4))
 (fin:∀ σ H,Pv xs.length σ H->Qf H) :
 ∃ W:Nat->Nat->L2.St->Hp->Prop,(∃ m,W 0 m σ0 H1) /\ ∀ i m σ' H',W i m σ' H'->((Itl K a).stop i H'/\Qf H')∨((Itl K a).go i H' /\ ∀ x H2,(Itl K a).yld i H' x H2 ->
   if true=true then te (σ'.set 0 (some x)) H2 fun y H4=>∃ ys,H4 D=some (.lst ys)/\ys.length < sizeLine /\ ∃ m',m' < m/\W (i+1) m' (σ'.set 0 (some x)) (upd H4 D (.lst (ys++[y])))
   else ∃ m',m' < m/\W (i+1) m' (σ'.set 0 (some x)) H2):=
 comp_list (tt:=fun _ H Q=>Q true H) Pv h0 hl (fun i x σ' H' e hi p=>iteT (step i x σ' H' e hi p)) fin
end
section
variable{C:Addr}{H H':Hp}{p:Addr}{f m:Int}{R:MRows}{t L:Addr}{ds:List Addr}
theorem ShX.place{C:Addr}{H:Hp}(X:ShX C H p f m R t L ds)(k:Int):∃ d,ds[plc f m R.length k]?=some d/\H d=some (.dK (kvs (sRow f m R k))):=by
 have lt:=plc_lt (f:=f) (m:=m) (k:=k) X.pos;have lt':plc f m R.length k < ds.length:=by rw[X.len];exact lt
 exact⟨ds[plc f m R.length k],List.getElem?_eq_getElem lt',X.at_ _ _ _ (List.getElem?_eq_getElem lt') (getD_get lt)⟩
theorem ShX.set{i:Nat}{d:Addr}{r:MRow}(X:ShX C H p f m R t L ds)(hd:ds[i]?=some d)(ok:ROk r)(h1:∃ dx,H' p=some (.ins C dx (sfl t L (tot (R.set i r)))))(h2:H' d=some (.dK (kvs r)))
 (h3:∀ b o,b≠p->b≠d->H b=some o->H' b=some o):ShX C H' p f m (R.set i r) t L ds:=by
 have hi:i < R.length:=by rw[← X.len];exact(List.getElem?_eq_some_iff.mp hd).1
 have hd0:=X.at_ i d _ hd (getD_get hi);obtain⟨dx,hp⟩:=X.ob;refine⟨h1,h3 _ _ (ne_of X.mx hp (by intro z;cases z)) (ne_of X.mx hd0 (by intro z;cases z)) X.mx,X.bm,h3 _ _ (ne_of X.rw hp (by intro z;cases z)) (ne_of X.rw hd0 (by intro z;cases z)) X.rw,by rw[List.length_set];exact X.len,X.nd,fun j x q e1 e2=>?_,set_ok X.ok ok,by rw[List.length_set];exact X.pos,by rw[List.length_set];exact X.top⟩
 by_cases e:i=j
 · subst e
   rw[hd]at e1;cases e1;rw[List.getElem?_set_self hi]at e2;cases e2;exact h2
 rw[List.getElem?_set_ne e]at e2;have hx:=X.at_ j x q e1 e2;refine h3 _ _ (ne_of hx hp (by intro z;cases z)) (fun z=>e ?_) hx
 subst z;have l1:=(List.getElem?_eq_some_iff.mp hd).1;exact(List.getElem?_inj l1 X.nd).mp (hd.trans e1.symm)
theorem ShX.emptied{i:Nat}{d':Addr}(X:ShX C H p f m R t L ds)(hi:i < R.length)(hn:H d'=none)(h1:∃ dx,H' p=some (.ins C dx (sfl t L (tot (R.set i [])))))(h2:H' d'=some (.dK []))
 (h4:H' L=some (.lst ((ds.set i d').map V.ref))) (h3:∀ b o,b≠p->b≠L->H b=some o->H' b=some o):ShX C H' p f m (R.set i []) t L (ds.set i d'):=by
 obtain⟨dx,hp⟩:=X.ob;have live:∀ x∈ds,∃ r,H x=some (.dK (kvs r)):=fun x hx=>by
  obtain⟨j,e⟩:=List.mem_iff_getElem?.mp hx;have hj:j < R.length:=by rw[← X.len];exact(List.getElem?_eq_some_iff.mp e).1
  exact⟨_,X.at_ j x _ e (getD_get hj)⟩
 have nin:d'∉ds:=fun z=>by
  obtain⟨r,e⟩:=live _ z;rw[hn]at e;cases e
 refine⟨h1,h3 _ _ (ne_of X.mx hp (by intro z;cases z)) (ne_of X.mx X.rw (by intro z;cases z)) X.mx,X.bm,h4,by rw[List.length_set,List.length_set];exact X.len,?_,fun j x q e1 e2=>?_,set_ok X.ok (by simp[ROk]),by rw[List.length_set];exact X.pos,by rw[List.length_set];exact X.top⟩
 · have key:∀(l:List Addr) (i:Nat),l.Nodup->d'∉l->(l.set i d').Nodup:=by
    intro l
    induction l with
    | nil=>intro i h _;simpa using h
    | cons a l ih=>
      intro i h hn;obtain⟨h1,h2⟩:=List.nodup_cons.mp h;cases i with
      | zero=>exact List.nodup_cons.mpr ⟨fun z=>hn (List.mem_cons_of_mem _ z),h2⟩
      | succ i=>
        refine List.nodup_cons.mpr ⟨fun z=>?_,ih i h2 fun z=>hn (List.mem_cons_of_mem _ z)⟩;rcases List.mem_or_eq_of_mem_set z with z | z
        · exact h1 z
        exact hn (z ▸ List.mem_cons_self ..)
   exact key ds i X.nd nin
 by_cases e:i=j
 · subst e
   rw[List.getElem?_set_self (by rw[X.len];exact hi)]at e1
   cases e1;rw[List.getElem?_set_self hi]at e2;cases e2;exact h2
 rw[List.getElem?_set_ne e]at e1 e2;have hx:=X.at_ j x q e1 e2;exact h3 _ _ (ne_of hx hp (by intro z;cases z)) (ne_of hx X.rw (by intro z;cases z)) hx
end
theorem prs_of{H:Hp}:∀{as:List Addr}{r:MRow},as.length=r.length->(∀(j:Nat) (a:Addr),as[j]?=some a -> ∃ k x,(kvs r)[j]?=some (k,x)/\H a=some (.tup [kV k,x]))->Prs H (as.map V.ref) r
 | [],[],_,_=>.nil
 | a::as,p::r,hl,h=>by
   refine .cons ⟨a,rfl,?_⟩ (prs_of (Nat.succ.inj hl) fun j b e=>h (j+1) b e);obtain⟨k,x,e,z⟩:=h 0 a rfl;cases e;exact z
 | [],_::_,hl,_=>by cases hl
 | _::_,[],hl,_=>by cases hl
noncomputable def spWhole:Sp:=fun vs H Q _=>∃ n:Int,vs=[.int n]/\Q (.bl true) H
noncomputable def spIsSize:Sp:=fun vs H Q _=>∃ n:Nat,vs=[.int n]/\isSize n/\Q (.bl true) H
theorem isSize.bounds{n:Nat}(h:isSize n):4<=n/\n<=4096:=by
 unfold isSize at h;simp only[List.mem_cons,List.not_mem_nil,or_false]at h;rcases h with rfl | rfl | rfl | rfl | rfl | rfl | rfl | rfl | rfl | rfl | rfl <;> decide
theorem oV_getD{r:MRow}{k:Int}:(valV (kvs r) (Sum.inl k:Key)).getD V.non=oV (rLook r k):=by
 rw[valV_kvs];cases rLook r k <;> rfl
theorem wIf{σ:L2.St}{H:Hp}{Q:VK}{t:TT}{ta tb:TE}(h:t σ H fun c H1=>if c=true then ta σ H1 Q else tb σ H1 Q):tIf t ta tb σ H Q:=h
end SW
namespace SW.B
open PySem PySem.Spec PyProof.Rows L2 SW
theorem cmpI{X:Cx}{a b:Expr}{ta tb:TE}{pos:Pos}{op:CmpOp}{r:R2}(ho:OpR X (compareOp op) r)(ha:Bx (PE X a ta))(hb:Bx (PE X b tb))(hm:behindInMarks op b=false:=by first | rfl | with_unfolding_all rfl):Bx (PE X (.Compare a [op] [b] pos) (tOp r ta tb)):=⟨pe_cmpR ho ha.out hb.out hm⟩
end SW.B
namespace SW
open PySem PySem.Spec PyProof.Rows L2
theorem putF_len(f:Str)(v:V):∀ fs:List (Str×V),(putF f v fs).length<=fs.length+1
 | []=>Nat.le_refl _
 | (k,x)::r=>by
   show(if k=f then(k,v)::r else(k,x)::putF f v r).length<=_;split
   · show r.length+1<=r.length+1+1;omega
   have:=putF_len f v r;show(putF f v r).length+1<=r.length+1+1;omega
end SW
namespace SW
open PySem PySem.Spec PyProof.Rows L2
section
variable{D:Ends}{σ:L2.St}{H:Hp}{Q:VK}{K:W.Frag}
theorem wDGet1{td ty:TE}(h:td σ H fun x H1=>∃ a,x=.ref a/\IsD H1 a/\ty σ H1 fun y H2=>∃ o,DGet H2 a y o/\Q (o.getD .non) H2):tDGet1 td ty σ H Q:=h
theorem wItems{td:TE}(h:td σ H fun x H1=>∃ a kvs,x=.ref a/\H1 a=some (.dK kvs) /\ ∀ v,H1 v=none->Q (.ref v) (upd H1 v (ViewO v a))):tItems td σ H Q:=h
theorem wDPut{td ty tv:TE}(h:tv σ H fun v H1=>td σ H1 fun x H2=>ty σ H2 fun y H3=>∃ a H4,x=.ref a/\DPut H3 a y v H4/\D.nx σ H4):sDPut td ty tv D σ H:=h
theorem wFAug{ta tv:TE}{rd:V->V->Hp->VK->Prop}{f:Str}(h:ta σ H fun x H1=>∃ a C dx fs v,x=.ref a/\H1 a=some (.ins C dx fs)/\Cls K C/\NoAttr K C f/\fs.lookup f=some v /\
 tv σ H1 fun y H2=>rd v y H2 fun z H3=>∃ dx' fs',H3 a=some (.ins C dx' fs')/\fs'.length < 1000/\D.nx σ (upd H3 a (.ins C dx' (putF f z fs')))):sFldAug K ta tv rd f D σ H:=h
theorem wCompSet{i:Nat}{t:TE}(h:t σ H fun v H1=>D.nx (σ.set i (some v)) H1):tCompSet i t D σ H:=h
theorem wSl{r:V->Option Int->Option Int->Hp->VK->Prop}{te:TE}{tl th:TO}(h:te σ H fun x H1=>tl σ H1 fun l H2=>th σ H2 fun u H3=>r x l u H3 Q):tSl r te tl th σ H Q:=h
theorem wNoPart{Q:Option Int->Hp->Prop}(h:Q none H):tNoPart σ H Q:=h
theorem wPart{t:TE}{Q:Option Int->Hp->Prop}(h:t σ H fun x H1=>∃ i,x=.int i/\Q (some i) H1):tPart t σ H Q:=h
end
section
variable{X:Cx}{pins:List (Addr×Obj)}{σ:L2.St}{H:Hp}{s:Shared}{h':Heap}
theorem Inv.turnedNew{t':Nat}{fp:List Addr}{a:Addr}{o:HO}(I:Inv X pins σ H s)(k:∀ b u,b∉fp->s.heap.get? b=some u->h'.get? b=some u)(hf:∀ b∈fp,FpOk X pins H b)(hp:s.heap.objs.size<=a)
 (new:ObjOk X.prog X.w (upd H a o) h' a o):Inv X pins σ (upd H a o) { s with heap:=h',toks:=t' }:=by
 have lt:∀ b u,H b=some u->b < s.heap.objs.size:=fun b u e=>I.hok.lt e;have old:∀ b u,H b=some u->upd H a o b=some u:=fun b u e=>by rw[upd_ne (Nat.ne_of_lt (Nat.lt_of_lt_of_le (lt b u e) hp))];exact e
 have nfp:∀ b u,H b=some u->b∉fp:=fun b u e z=>by
  have:=(hf b z).1;rw[e]at this;cases this
 refine I.call (g':=s.gens) (d':=s.drawn) (t':=t') (ch:=fp) ⟨fun b u q _ _ hx=>k b u hx q,fun b u q _ _ hx=>⟨u.slots,k b u hx q⟩,fun b u q n _=>?_,fun b u q hx=>⟨u,k b u hx q⟩,fun b xs q=>old b _ q,fun b u v q=>old b _ q,fun b ps q=>⟨#[],by rw[old b _ q];simp⟩⟩ (fun b u e=>?_) I.bare
  fun b hb=>⟨(hf b hb).2.2.2.1,(hf b hb).2.1,(hf b hb).2.2.2.2.1,(hf b hb).2.2.2.2.2⟩
 · rw[upd_ne (Nat.ne_of_lt (Nat.lt_of_lt_of_le (Heap.lt_size q) hp))];exact n
 by_cases hb:b=a
 · subst hb
   rw[upd_same]at e;cases e;exact new
 rw[upd_ne hb]at e;refine(I.hok b u e).stay (fun c v hc q=>k c v ?_ q) (fun c q=>old c _ q) fun c xs q=>old c _ q;rcases hc with z | z
 · rw[z];exact nfp b u e
 exact nfp c _ z
theorem Inv.turnedL{t':Nat}{fp:List Addr}(I:Inv X pins σ H s)(k:∀ b u,b∉fp->s.heap.get? b=some u->h'.get? b=some u)(hf:∀ b∈fp,FpOk X pins H b):Inv X pins σ H { s with heap:=h',toks:=t' }:=by
 have nfp:∀ b u,H b=some u->b∉fp:=fun b u e z=>by
  have:=(hf b z).1;rw[e]at this;cases this
 refine I.call (g':=s.gens) (d':=s.drawn) (t':=t') (ch:=fp) ⟨fun b u q _ _ hx=>k b u hx q,fun b u q _ _ hx=>⟨u.slots,k b u hx q⟩,fun b u q n _=>n,fun b u q hx=>⟨u,k b u hx q⟩,fun b xs q=>q,fun b u v q=>q,fun b ps q=>⟨#[],by rw[q];simp⟩⟩ (fun b u e=>?_) I.bare
  fun b hb=>⟨(hf b hb).2.2.2.1,(hf b hb).2.1,(hf b hb).2.2.2.2.1,(hf b hb).2.2.2.2.2⟩
 refine(I.hok b u e).stay (fun c v hc q=>k c v ?_ q) (fun c q=>q) fun c xs q=>q;rcases hc with z | z
 · rw[z];exact nfp b u e
 exact nfp c _ z
end
section
variable{X:Cx}{elts:List Expr}{k:Nat}{tp:Pos}
end
namespace B
end B
section
variable{prog:Program}{w:World}{A:Around}{E:Value->Shared->Prop}{s:Shared}
set_option maxRecDepth 100000 in
end
section
variable{X:Cx}{o e:Expr}{to te:TE}{pos p2:Pos}{hi:Option Expr}{th:TO}
end
namespace B
end B
theorem Prs.len{H:Hp}{xs:List V}{r:MRow}(h:Prs H xs r):xs.length=r.length:=Paired.length h
theorem Prs.get{H:Hp}:∀{xs:List V}{r:MRow}{i:Nat}{p:Int×Int},Prs H xs r->r[i]?=some p -> ∃ a,xs[i]?=some (.ref a)/\H a=some (.tup [.int p.1,.int p.2])
 | _,_,_,_,.nil,h=>by simp at h
 | _,_,0,p,.cons (b:=b) ⟨a,e,h⟩ _,g=>by
   simp at g;subst g;exact⟨a,by rw[e];rfl,h⟩
 | _,_,i+1,p,.cons _ t,g=>by
   obtain⟨a,e,h⟩:=Prs.get (i:=i) t (by simpa using g)
   exact⟨a,by simpa using e,h⟩
theorem Prs.dat{K:W.Frag}{H:Hp}:∀{xs:List V}{r:MRow},Prs H xs r->DatVs K H xs (r.map fun p=>.tuple [.int p.1,.int p.2])
 | _,_,.nil=>.nil
 | _,_,.cons ⟨a,e,h⟩ t=>by
   subst e;exact .cons (.tup (SqT.of h) (.cons (.int _) (.cons (.int _) .nil))) (Prs.dat t)
structure LR(H:Hp)(q:Addr)(R:MRows)(ls:List Addr):Prop where
 top:H q=some (.lst (ls.map V.ref))
 len:ls.length=R.length
 nd:ls.Nodup
 nq:q∉ls
 at_:∀(i:Nat) (l:Addr) (r:MRow),ls[i]?=some l->R[i]?=some r -> ∃ xs,H l=some (.lst xs)/\Prs H xs r
theorem LR.keep{H H':Hp}{q:Addr}{R:MRows}{ls:List Addr}{G:Addr->Prop}(S:LR H q R ls)(k:Fr G H H')(hq:¬ G q)(hl:∀ b∈ls,¬ G b)(dt:∀ b xs,H b=some (.tup xs) -> ¬ G b):LR H' q R ls:=
 ⟨k _ _ hq S.top,S.len,S.nd,S.nq,fun i l r e1 e2=>by
  obtain⟨xs,h1,h2⟩:=S.at_ i l r e1 e2;exact⟨xs,k _ _ (hl l (List.mem_of_getElem? e1)) h1,h2.keep fun a ys e=>k _ _ (dt a ys e) e⟩⟩
theorem LR.same{H H':Hp}{q:Addr}{R:MRows}{ls:List Addr}(S:LR H q R ls)(k:Same H H'):LR H' q R ls:=
 S.keep (G:=fun _=>False) (fun b o _ e=>k b o e) (fun z=>z) (fun _ _ z=>z) fun _ _ _ z=>z
theorem LR.live{H:Hp}{q:Addr}{R:MRows}{ls:List Addr}(S:LR H q R ls){b:Addr}(h:b∈ls):∃ xs,H b=some (.lst xs):=by
 obtain⟨i,e⟩:=List.mem_iff_getElem?.mp h;have hi:i < R.length:=by rw[← S.len];exact(List.getElem?_eq_some_iff.mp e).1
 obtain⟨xs,h1,_⟩:=S.at_ i b _ e (getD_get hi);exact⟨xs,h1⟩
theorem LR.place{H:Hp}{q:Addr}{R:MRows}{ls:List Addr}(S:LR H q R ls){i:Nat}(h:i < R.length):∃ l xs,ls[i]?=some l/\H l=some (.lst xs)/\Prs H xs (R.getD i []):=by
 have h':i < ls.length:=by rw[S.len];exact h
 obtain⟨xs,h1,h2⟩:=S.at_ i _ _ (List.getElem?_eq_getElem h') (getD_get h);exact⟨_,xs,List.getElem?_eq_getElem h',h1,h2⟩
theorem LR.set{H H':Hp}{q:Addr}{R:MRows}{ls:List Addr}{i:Nat}{l:Addr}{xs:List V}{r:MRow}(S:LR H q R ls)(hl:ls[i]?=some l)(h1:H' l=some (.lst xs))(h2:Prs H' xs r)(k:∀ b o,b≠l->H b=some o->H' b=some o):LR H' q (R.set i r) ls:=by
 have lt:i < R.length:=by rw[← S.len];exact(List.getElem?_eq_some_iff.mp hl).1
 obtain⟨ys,hl0⟩:=S.live (List.mem_of_getElem? hl);refine⟨k _ _ (fun z=>S.nq (z ▸ List.mem_of_getElem? hl)) S.top,by rw[List.length_set];exact S.len,S.nd,S.nq,fun j y p e1 e2=>?_⟩
 by_cases e:i=j
 · subst e
   rw[hl]at e1;cases e1;rw[List.getElem?_set_self lt]at e2;cases e2;exact⟨xs,h1,h2⟩
 rw[List.getElem?_set_ne e]at e2;obtain⟨zs,g1,g2⟩:=S.at_ j y p e1 e2;refine⟨zs,k _ _ (fun z=>e ?_) g1,g2.keep fun a us ea=>k _ _ (ne_of ea hl0 (by intro z;cases z)) ea⟩
 subst z;exact(List.getElem?_inj (List.getElem?_eq_some_iff.mp hl).1 S.nd).mp (hl.trans e1.symm)
noncomputable def spWorth:Sp:=fun vs H Q _=>∃ p:Addr,vs=[.ref p]/\Row H p /\ ∀ v H',-1000000000<=v->v<=1000000000->Row H' p->KeepBut p H H'->Q (.int v) H'
theorem wWorth{p:Addr}{H:Hp}{Q:VK}{E:XK}(hp:Row H p)(k:∀ v H',-1000000000<=v->v<=1000000000->Row H' p->KeepBut p H H'->Q (.int v) H'):spWorth ([.ref p]++[]) H Q E:=⟨p,rfl,hp,k⟩
namespace B
theorem fldK(K:W.Frag){X:Cx}{e:Expr}{ta:TE}{f:Str}{pos:Pos}(he:Bx (PE X e ta))(h:X.K=K:=by rfl)(hb:attributeBase e f X.env (eval e X.env)=eval e X.env:=by rfl):Bx (PE X (.Attribute e f pos) (tFld K ta f)):=by subst h;exact⟨pe_fld he.out hb⟩
end B
end SW
namespace SW
open PySem PySem.Spec PyProof.Rows L2
theorem b_range:bootBuiltins "range"=some (.type "range"):=by decide +kernel
theorem b_set:bootBuiltins "set"=some (.type "set"):=by decide +kernel
theorem b_min:bootBuiltins "min"=some (.builtin "min"):=by decide +kernel
theorem b_max:bootBuiltins "max"=some (.builtin "max"):=by decide +kernel
noncomputable def nDist(ns:List Int):Nat:=(firstMet (fun i=>ns.getD i 0) ns.length).length
noncomputable def seqI(i:Int)(n:Nat):List Int:=(List.range n).map fun(k:Nat)=>i+(k:Int)
theorem vals_seq{i:Int}:∀{n:Nat}{acc:List Value},acc.length=n->(∀(j:Nat) v,acc[j]?=some v -> ∃ t,v=.int (i+j*1) t)->Vals ((seqI i n).map V.int) acc:=by
 intro n acc hl h;have key:∀(acc:List Value) (b:Nat),(∀(j:Nat) v,acc[j]?=some v -> ∃ t,v=.int (i+((b+j:Nat):Int)) t)->Vals (((List.range' b acc.length).map fun(k:Nat)=>i+(k:Int)).map V.int) acc:=by
  intro acc
  induction acc with
  | nil=>intro b _;exact .nil
  | cons v acc ih=>
    intro b h;refine .cons ?_ (ih (b+1) fun j v e=>?_)
    · obtain⟨t,e⟩:=h 0 v rfl
      exact⟨t,e⟩
    obtain⟨t,e'⟩:=h (j+1) v (by simpa using e)
    exact⟨t,by rw[e',show b+(j+1)=b+1+j by omega]⟩
 have:=key acc 0 fun j v e=>by
  obtain⟨t,e'⟩:=h j v e;exact⟨t,by rw[e',Int.mul_one,Nat.zero_add]⟩
 rw[hl]at this;unfold seqI;rw[List.range_eq_range'];exact this
section
variable{X:Cx}
theorem call_range2R:CallR X (.type "range") (fun xs H Q=>∃ i j,xs=[.int i,.int j] /\ ∀ p,H p=none->Q (.ref p) (upd H p (.rng i j))):=by
 intro pins s σ H xs us Q I r h;obtain⟨i,j,rfl,q⟩:=h;obtain⟨u,w',rfl,⟨t,rfl⟩,⟨t',rfl⟩⟩:=vals2 r;refine call_range_2 ⟨.ref s.heap.objs.size,upd H s.heap.objs.size (.rng i j),I.laid (t':=s.toks+1) (fun b u e=>Heap.get?_push_of_some _ e) (Nat.le_refl _) ?_,rfl,q _ (I.hok.fresh (Nat.le_refl _))⟩;exact⟨t,t',s.toks,Heap.get?_push_size _ rfl⟩
theorem call_list_rng:CallR X (.type "list") (fun xs H Q=>∃ r i j,xs=[.ref r]/\H r=some (.rng i j)/\(-(2 ^ 62)<=i/\i < 2 ^ 62 /\ -(2 ^ 62)<=j/\j < 2 ^ 62)/\i<=j/\j - i<=1000000/\X.calm=true /\ ∀ l,H l=none->Q (.ref l) (upd H l (.lst ((seqI i (j - i).toNat).map V.int)))):=by
 intro pins s σ H xs us Q I r h;obtain⟨a,i,j,rfl,ha,⟨h1,h2,h3,h4⟩,hij,hsz,hc,q⟩:=h;obtain⟨u,rfl,rx⟩:=vals1 r;cases rx;obtain⟨t,u',v',g⟩:=(show ObjOk X.prog X.w H s.heap a (.rng i j)from I.hok a _ ha);have hn:Builtin.Range.rangeSize i j 1=((j - i).toNat:Int):=by rw[rangeSize_one];split <;> omega
 refine call_list_range (n:=(j - i).toNat) (I.ok.hd hc) (show IsRange s.heap a i j 1 t u' v' from g) (small_one h1 h2 h3 h4) hn (by omega) fun h' tk acc c hk hS hacc=>?_
 have vs:Vals ((seqI i (j - i).toNat).map V.int) acc.toList:=vals_seq (by rw[Array.length_toList];exact hacc.1) fun k v e=>hacc.2 k v (by simpa using e)
 have ll:((seqI i (j - i).toNat).map V.int).length=(j - i).toNat:=by unfold seqI;simp
 refine⟨.ref s.heap.objs.size,_,I.laid (t':=tk) hk (Nat.le_refl _) (show ObjOk X.prog X.w _ h' _ (.lst ((seqI i (j - i).toNat).map V.int))from⟨by rw[ll,sizeLine_eq];omega,acc.toList,c,vs,hS⟩),rfl,q _ (I.hok.fresh (Nat.le_refl _))⟩
theorem call_setL:CallR X (.type "set") (fun xs H Q=>∃ l ns,xs=[.ref l]/\SqL X.K H l (List.map V.int ns)/\List.length ns+1 < 4096/\X.calm=true /\ ∀ a S,H a=none->Q (.ref a) (upd H a (.set S (nDist ns)))):=by
 intro pins s σ H xs us Q I r h;obtain⟨l,ns,rfl,hl,hn,hc,q⟩:=h;obtain⟨u,rfl,rx⟩:=vals1 r;cases rx;obtain⟨its,rv,pl,_⟩:=I.list hl;have hi:IntsAre its ns:=intsAre_of rv;have le:=rv.length;rw[List.length_map]at le;refine call_set_list (items:=its.toArray) (I.ok.hd hc) pl.isList hi (by rw[List.size_toArray,← le];exact hn) fun h' tk hS hk=>?_
 have e:(firstMet (fun i=>ns.getD i 0) its.toArray.size).length=nDist ns:=by rw[List.size_toArray,← le];rfl
 rw[e]at hS;exact⟨.ref s.heap.objs.size,_,I.laid (t':=tk) (fun b u g=>hk b u (Heap.lt_size g) g) (Nat.le_refl _) (show ObjOk X.prog X.w _ h' _ (.set _ _)from hS),rfl,q _ _ (I.hok.fresh (Nat.le_refl _))⟩
theorem call_lenS:CallR X (.builtin "len") (fun xs H Q=>∃ a S n,xs=[.ref a]/\H a=some (.set S n)/\Q (.int (n:Nat)) H):=by
 intro pins s σ H xs us Q I r h;obtain⟨a,S,n,rfl,ha,q⟩:=h;obtain⟨u,rfl,rx⟩:=vals1 r;cases rx;obtain⟨o,es,ep,t,ho,hex,hd,_,_,hb,hf,hn⟩:=(show ObjOk X.prog X.w H s.heap a (.set S n)from I.hok a _ ha);have:(scanBound:Nat)=4096:=rfl;exact call_len_set ho hex hd hf (by omega) ⟨.int n,H,I.tok _,⟨_,by rw[hn]⟩,q⟩
end
end SW
namespace SW
open PySem PySem.Spec PyProof.Rows L2
structure MT where
 el:Option MRows
 mv:Nat
 nw:MRows
noncomputable def putAll(f m:Int)(N:MRows)(r:MRow):MRows:=r.foldl (fun N p=>sPut f m N p.1 p.2) N
noncomputable def moves(f m:Int):MRows->MRows->Nat->Nat->MRows×MRows
 | E,N,_,0=>(E,N)
 | E,N,i,c+1=>moves f m (E.set i []) (putAll f m N (E.getD i [])) (i+1) c
noncomputable def reach(f m:Int)(n:Nat):MRows->Nat->Nat->List Int
 | _,_,0=>[]
 | E,i,c+1=>((E.getD i []).map fun p=>((plc f m n p.1:Nat):Int))++reach f m n E (i+1) c
noncomputable def due(pc:Nat)(M:MT):Nat:=match M.el with
 | none=>0
 | some E=>min (M.mv+pc) E.length - M.mv
noncomputable def goOn(f m:Int)(pc:Nat)(M:MT):MT:=match M.el with
 | none=>M
 | some E=>if M.mv+due pc M=E.length then⟨none,0,(moves f m E M.nw M.mv (due pc M)).2⟩else⟨some (moves f m E M.nw M.mv (due pc M)).1,M.mv+due pc M,(moves f m E M.nw M.mv (due pc M)).2⟩
noncomputable def onE(f m:Int)(M:MT)(k:Int):Option Int:=match M.el with
 | none=>none
 | some E=>sLook f m E k
noncomputable def tLook(f m:Int)(M:MT)(k:Int):Option Int:=match onE f m M k with
 | some v=>some v
 | none=>sLook f m M.nw k
noncomputable def putAt(f m:Int)(M:MT)(k v:Int):MT:=match M.el with
 | none=>{ M with nw:=sPut f m M.nw k v }
 | some E=>if sLook f m E k=none then { M with nw:=sPut f m M.nw k v } else { M with el:=some (sPut f m E k v) }
noncomputable def cutAt(f m:Int)(M:MT)(k:Int):MT:=match M.el with
 | none=>{ M with nw:=sCut f m M.nw k }
 | some E=>if sLook f m E k=none then { M with nw:=sCut f m M.nw k } else { M with el:=some (sCut f m E k) }
noncomputable def want(N:MRows):Nat:=if N.length < tot N then min (N.length*2) 4096 else if tot N*8 < N.length then max (N.length / 2) 4 else N.length
noncomputable def beg(M:MT):MT:=match M.el with
 | some _=>M
 | none=>if want M.nw=M.nw.length then M else⟨some M.nw,M.mv,List.replicate (want M.nw) []⟩
noncomputable def tch(f m:Int)(pc:Nat)(M:MT)(k:Int):Nat:=due pc M+nDist (((plc f m M.nw.length k:Nat):Int)::(match M.el with | none=>[] | some E=>reach f m M.nw.length E M.mv (due pc M)))
 + (match(goOn f m pc M).el with | none=>0 | some E=>if(goOn f m pc M).mv<=plc f m E.length k then 1 else 0)
noncomputable def cnt(M:MT):Nat:=(match M.el with | none=>0 | some E=>tot E)+tot M.nw
structure POk(f m:Int)(N:MRows):Prop where
 at_:∀(i:Nat) r p,N[i]?=some r->p∈r->plc f m N.length p.1=i
 ok:∀ r∈N,ROk r
structure TOk(f m:Int)(M:MT):Prop where
 nw:POk f m M.nw
 sz:isSize M.nw.length
 el:∀ E,M.el=some E->POk f m E/\isSize E.length/\M.mv < E.length/\(∀ i r,i < M.mv->E[i]?=some r->r=[])/\(∀ k,sLook f m E k≠none->sLook f m M.nw k=none)
 no:M.el=none->M.mv=0
theorem sLook_getD{f m:Int}{N:MRows}{k:Int}:sLook f m N k=rLook (N.getD (plc f m N.length k) []) k:=rfl
theorem set_getD{R:MRows}{i j:Nat}{r:MRow}(h:i < R.length):(R.set i r).getD j []=if i=j then r else R.getD j []:=by
 rw[List.getD_eq_getElem?_getD,List.getElem?_set];by_cases e:i=j
 · rw[if_pos e,if_pos e,if_pos h];rfl
 rw[if_neg e,if_neg e,List.getD_eq_getElem?_getD]
theorem rLook_put{r:MRow}{k v j:Int}:rLook (rPut r k v) j=if j=k then some v else rLook r j:=by
 have h:=valV_put (kvs r) (Sum.inl k:Key) (Sum.inl j) (V.int v);rw[putK_kvs,valV_kvs,valV_kvs]at h;by_cases e:j=k
 · rw[if_pos (inlE.mpr e)]at h
   rw[if_pos e];cases q:rLook (rPut r k v) j with
   | none=>rw[q]at h;cases h
   | some z=>rw[q]at h;injection h with h;injection h with h;rw[h]
 rw[if_neg (fun z=>e (inlE.mp z))]at h;rw[if_neg e];cases q:rLook (rPut r k v) j with
 | none=>rw[q]at h;cases q2:rLook r j with
   | none=>rfl
   | some z=>rw[q2]at h;cases h
 | some z=>rw[q]at h;cases q2:rLook r j with
   | none=>rw[q2]at h;cases h
   | some y=>rw[q2]at h;injection h with h;injection h with h;rw[h]
theorem rLook_cut{k j:Int}:∀{r:MRow},rLook (rCut r k) j=if j=k then none else rLook r j
 | []=>by unfold rCut;simp[rLook]
 | p::r=>by
   have ih:=rLook_cut (k:=k) (j:=j) (r:=r);by_cases e:p.1=k
   · have e2:rCut (p::r) k=rCut r k:=by
      unfold rCut;rw[List.filter_cons,if_neg (by simp[e])]
     rw[e2,ih];by_cases ej:j=k
     · rw[if_pos ej,if_pos ej]
     rw[if_neg ej,if_neg ej,rLook_neg (fun z=>ej (by rw[← z,e]))]
   have e2:rCut (p::r) k=p::rCut r k:=by
    unfold rCut;rw[List.filter_cons,if_pos (by simp[e])]
   rw[e2];by_cases ep:p.1=j
   · rw[rLook_pos ep,rLook_pos ep,if_neg (fun z=>e (by rw[ep,z]))]
   rw[rLook_neg ep,rLook_neg ep,ih]
theorem sLook_put{f m:Int}{N:MRows}{k v j:Int}(h:0 < N.length):sLook f m (sPut f m N k v) j=if j=k then some v else sLook f m N j:=by
 unfold sLook sRow;rw[sPut_len];unfold sPut sRow;rw[set_getD (plc_lt h)];by_cases e:j=k
 · subst e
   rw[if_pos rfl,if_pos rfl,rLook_put,if_pos rfl]
 rw[if_neg e];split
 · rename_i e2
   rw[rLook_put,if_neg e,e2]
 rfl
theorem sLook_cut{f m:Int}{N:MRows}{k j:Int}(h:0 < N.length):sLook f m (sCut f m N k) j=if j=k then none else sLook f m N j:=by
 unfold sLook sRow;rw[sCut_len];unfold sCut sRow;rw[set_getD (plc_lt h)];by_cases e:j=k
 · subst e
   rw[if_pos rfl,if_pos rfl,rLook_cut,if_pos rfl]
 rw[if_neg e];split
 · rename_i e2
   rw[rLook_cut,if_neg e,e2]
 rfl
theorem mem_put{r:MRow}{k v:Int}{p:Int×Int}(h:p∈rPut r k v):p.1=k∨p∈r:=by
 cases e:rLook r k with
 | none=>
   rw[rPut_new e]at h;rcases List.mem_append.mp h with h | h
   · exact .inr h
   exact .inl (by rw[List.mem_singleton.mp h])
 | some z=>
   unfold rPut at h;rw[e,if_pos (show(some z).isSome=true from rfl)]at h;obtain⟨q,hq,rfl⟩:=List.mem_map.mp h;by_cases e2:q.1=k
   · rw[if_pos e2];exact .inl e2
   rw[if_neg e2];exact .inr hq
theorem POk.set{f m:Int}{N:MRows}{i:Nat}{r:MRow}(P:POk f m N)(h:∀ p∈r,plc f m N.length p.1=i)(hr:ROk r):POk f m (N.set i r):=by
 refine⟨fun j q p e hp=>?_,set_ok P.ok hr⟩;rw[List.length_set];by_cases z:i=j
 · subst z
   have lt:i < (N.set i r).length:=(List.getElem?_eq_some_iff.mp e).1;rw[List.length_set]at lt;rw[List.getElem?_set_self lt]at e;cases e;exact h p hp
 rw[List.getElem?_set_ne z]at e;exact P.at_ j q p e hp
theorem POk.put{f m:Int}{N:MRows}{k v:Int}(P:POk f m N)(h:0 < N.length):POk f m (sPut f m N k v):=
 P.set (fun p hp=>by
  rcases mem_put hp with e | e
  · rw[e]
  exact P.at_ _ _ p (getD_get (plc_lt h)) e) (rPut_ok (P.ok _ (List.mem_of_getElem? (getD_get (plc_lt h)))))
theorem POk.cut{f m:Int}{N:MRows}{k:Int}(P:POk f m N)(h:0 < N.length):POk f m (sCut f m N k):=
 P.set (fun p hp=>P.at_ _ _ p (getD_get (plc_lt h)) (List.mem_filter.mp hp).1) (rCut_ok (P.ok _ (List.mem_of_getElem? (getD_get (plc_lt h)))))
theorem POk.empty{f m:Int}{N:MRows}{i:Nat}(P:POk f m N):POk f m (N.set i []):=P.set (fun p hp=>(List.not_mem_nil hp).elim) List.nodup_nil
theorem POk.rep{f m:Int}{n:Nat}:POk f m (List.replicate n []):=
 ⟨fun i r p e hp=>by rw[List.eq_of_mem_replicate (List.mem_of_getElem? e)]at hp;exact(List.not_mem_nil hp).elim,fun r hr=>by rw[List.eq_of_mem_replicate hr];exact List.nodup_nil⟩
theorem putAll_len{f m:Int}:∀{r:MRow}{N:MRows},(putAll f m N r).length=N.length
 | [],_=>rfl
 | p::r,N=>by
   show(putAll f m (sPut f m N p.1 p.2) r).length=_;rw[putAll_len,sPut_len]
theorem putAll_pok{f m:Int}:∀{r:MRow}{N:MRows},POk f m N->0 < N.length->POk f m (putAll f m N r)
 | [],_,P,_=>P
 | p::r,N,P,h=>putAll_pok (r:=r) (P.put h) (by rw[sPut_len];exact h)
theorem sLook_putAll{f m:Int}{k:Int}:∀{r:MRow}{N:MRows},ROk r->0 < N.length->sLook f m (putAll f m N r) k=match rLook r k with | some v=>some v | none=>sLook f m N k
 | [],_,_,_=>rfl
 | p::r,N,ok,h=>by
   obtain⟨h1,h2⟩:=List.nodup_cons.mp (show(p.1::r.map (·.1)).Nodup from ok);show sLook f m (putAll f m (sPut f m N p.1 p.2) r) k=_;rw[sLook_putAll h2 (by rw[sPut_len];exact h),sLook_put h]
   by_cases e:p.1=k
   · have:rLook r k=none:=(rLook_none_iff k).mpr (by rw[← e];exact h1)
     rw[this,rLook_pos e,if_pos e.symm]
   rw[rLook_neg e,if_neg (fun z=>e z.symm)]
theorem tot_putAll{f m:Int}:∀{r:MRow}{N:MRows},ROk r->0 < N.length->(∀ p∈r,sLook f m N p.1=none)->tot (putAll f m N r)=tot N+r.length
 | [],_,_,_,_=>rfl
 | p::r,N,ok,h,hn=>by
   obtain⟨h1,h2⟩:=List.nodup_cons.mp (show(p.1::r.map (·.1)).Nodup from ok);show tot (putAll f m (sPut f m N p.1 p.2) r)=_;rw[tot_putAll h2 (by rw[sPut_len];exact h) (fun q hq=>?_),sPut_tot h,hn p (List.mem_cons_self ..),if_pos rfl,List.length_cons]
   · omega
   rw[sLook_put h,if_neg (fun z=>h1 (List.mem_map.mpr ⟨q,hq,z⟩))];exact hn q (List.mem_cons_of_mem _ hq)
structure Pair(f m:Int)(E N:MRows)(i:Nat):Prop where
 e:POk f m E
 n:POk f m N
 e0:0 < E.length
 n0:0 < N.length
 dis:∀ k,sLook f m E k≠none->sLook f m N k=none
 bare:∀ j r,j < i->E[j]?=some r->r=[]
theorem rLook_mem{r:MRow}{k v:Int}(h:rLook r k=some v):∃ p∈r,p.1=k:=by
 unfold rLook at h;obtain⟨p,e,_⟩:=Option.map_eq_some_iff.mp h;exact⟨p,List.mem_of_find?_eq_some e,of_decide_eq_true (List.find?_some (p:=fun p:Int×Int=>decide (p.1=k)) e)⟩
theorem Pair.row{f m:Int}{E N:MRows}{i:Nat}(P:Pair f m E N i)(hi:i < E.length):ROk (E.getD i [])/\(∀ k,plc f m E.length k≠i->rLook (E.getD i []) k=none) /\ ∀ p∈E.getD i [],sLook f m E p.1=rLook (E.getD i []) p.1:=by
 have e:=getD_get hi;refine⟨P.e.ok _ (List.mem_of_getElem? e),fun k hk=>?_,fun p hp=>?_⟩
 · cases q:rLook (E.getD i []) k with
   | none=>rfl
   | some v=>
     obtain⟨p,hp,ep⟩:=rLook_mem q;exact absurd (P.e.at_ i _ p e hp) (by rw[ep];exact hk)
 rw[sLook_getD,P.e.at_ i _ p e hp]
theorem Pair.step{f m:Int}{E N:MRows}{i:Nat}(P:Pair f m E N i)(hi:i < E.length):Pair f m (E.set i []) (putAll f m N (E.getD i [])) (i+1) /\
 (∀ k,(match sLook f m (E.set i []) k with | some v=>some v | none=>sLook f m (putAll f m N (E.getD i [])) k)=match sLook f m E k with | some v=>some v | none=>sLook f m N k)/\tot (E.set i [])+tot (putAll f m N (E.getD i []))=tot E+tot N:=by
 obtain⟨ok,out,ins⟩:=P.row hi;have se:∀ k,sLook f m (E.set i []) k=if plc f m E.length k=i then none else sLook f m E k:=fun k=>by
  rw[sLook_getD,List.length_set,set_getD hi];by_cases e:plc f m E.length k=i
  · rw[if_pos e.symm,if_pos e];rfl
  rw[if_neg (fun z=>e z.symm),if_neg e];rfl
 have key:∀ k,plc f m E.length k=i->sLook f m E k=rLook (E.getD i []) k:=fun k e=>by rw[sLook_getD,e]
 refine⟨⟨P.e.empty,putAll_pok P.n P.n0,by rw[List.length_set];exact P.e0,by rw[putAll_len];exact P.n0,fun k hk=>?_,fun j r hj e=>?_⟩,fun k=>?_,?_⟩
 · rw[se]at hk
   by_cases e:plc f m E.length k=i
   · rw[if_pos e]at hk;exact absurd rfl hk
   rw[if_neg e]at hk;rw[sLook_putAll ok P.n0,out k e];exact P.dis k hk
 · by_cases z:i=j
   · subst z
     rw[List.getElem?_set_self hi]at e;cases e
     rfl
   rw[List.getElem?_set_ne z]at e;exact P.bare j r (by omega) e
 · rw[se,sLook_putAll ok P.n0]
   by_cases e:plc f m E.length k=i
   · rw[if_pos e,key k e]
   rw[if_neg e,out k e]
 have h1:=tot_set E i [] hi;have h2:=tot_putAll (f:=f) (m:=m) (N:=N) ok P.n0 fun p hp=>P.dis _ (by
  rw[ins p hp];exact fun z=>(rLook_none_iff p.1).mp z (List.mem_map.mpr ⟨p,hp,rfl⟩))
 rw[h2];have:([]:MRow).length=0:=rfl;omega
theorem moves_ok{f m:Int}:∀(c:Nat) {E N:MRows}{i:Nat},Pair f m E N i->i+c<=E.length->Pair f m (moves f m E N i c).1 (moves f m E N i c).2 (i+c)/\(moves f m E N i c).1.length=E.length/\(moves f m E N i c).2.length=N.length /\
 (∀ k,(match sLook f m (moves f m E N i c).1 k with | some v=>some v | none=>sLook f m (moves f m E N i c).2 k)=match sLook f m E k with | some v=>some v | none=>sLook f m N k)/\tot (moves f m E N i c).1+tot (moves f m E N i c).2=tot E+tot N
 | 0,E,N,i,P,_=>⟨P,rfl,rfl,fun _=>rfl,rfl⟩
 | c+1,E,N,i,P,h=>by
   obtain⟨P1,l1,t1⟩:=P.step (show i < E.length by omega)
   obtain⟨P2,a2,b2,l2,t2⟩:=moves_ok c P1 (by rw[List.length_set];omega)
   refine⟨?_,by show(moves f m (E.set i []) (putAll f m N (E.getD i [])) (i+1) c).1.length=_;rw[a2,List.length_set],by show(moves f m (E.set i []) (putAll f m N (E.getD i [])) (i+1) c).2.length=_;rw[b2,putAll_len],fun k=>(l2 k).trans (l1 k),t2.trans t1⟩
   have e:i+(c+1)=i+1+c:=by omega
   rw[e];exact P2
theorem none_of_bare{f m:Int}{E:MRows}(h0:0 < E.length)(h:∀ j r,j < E.length->E[j]?=some r->r=[])(k:Int):sLook f m E k=none:=by
 rw[sLook_getD];have lt:=plc_lt (f:=f) (m:=m) (k:=k) h0;rw[h _ _ lt (getD_get lt)]
 rfl
theorem tot_bare{E:MRows}(h:∀ j r,j < E.length->E[j]?=some r->r=[]):tot E=0:=by
 have key:∀ E:MRows,(∀ r∈E,r=[])->tot E=0:=by
  intro E
  induction E with
  | nil=>intro _;rfl
  | cons a E ih=>
    intro h;have:=ih fun r hr=>h r (List.mem_cons_of_mem _ hr);have e:=h a (List.mem_cons_self ..);subst e;show([]:MRow).length+tot E=0;rw[this]
    rfl
 refine key E fun r hr=>?_;obtain⟨i,e⟩:=List.mem_iff_getElem?.mp hr;exact h i r (List.getElem?_eq_some_iff.mp e).1 e
theorem isSize.pos{n:Nat}(h:isSize n):0 < n:=by have:=h.bounds;omega
theorem TOk.pair{f m:Int}{M:MT}{E:MRows}(T:TOk f m M)(e:M.el=some E):Pair f m E M.nw M.mv:=by
 obtain⟨P,s,_,b,d⟩:=T.el E e;exact⟨P,T.nw,s.pos,T.sz.pos,d,b⟩
theorem due_le{pc:Nat}{M:MT}{E:MRows}(e:M.el=some E)(h:M.mv < E.length):M.mv+due pc M<=E.length:=by
 unfold due;rw[e];show M.mv+(min (M.mv+pc) E.length - M.mv)<=E.length;omega
theorem goOn_ok{f m:Int}{pc:Nat}{M:MT}(T:TOk f m M):TOk f m (goOn f m pc M)/\(∀ k,tLook f m (goOn f m pc M) k=tLook f m M k)/\cnt (goOn f m pc M)=cnt M:=by
 cases e:M.el with
 | none=>
   have:goOn f m pc M=M:=by unfold goOn;rw[e]
   rw[this];exact⟨T,fun _=>rfl,rfl⟩
 | some E=>
   obtain⟨P,s,hm,b,d⟩:=T.el E e;obtain⟨P2,l1,l2,lk,tt⟩:=moves_ok (due pc M) (T.pair e) (due_le e hm);by_cases z:M.mv+due pc M=E.length
   · have eg:goOn f m pc M=⟨none,0,(moves f m E M.nw M.mv (due pc M)).2⟩:=by unfold goOn;rw[e];exact if_pos z
     have bare:∀ j r,j < (moves f m E M.nw M.mv (due pc M)).1.length->(moves f m E M.nw M.mv (due pc M)).1[j]?=some r->r=[]:=fun j r hj=>P2.bare j r (by rw[l1]at hj;omega)
     rw[eg];refine⟨⟨P2.n,by show isSize (moves f m E M.nw M.mv (due pc M)).2.length;rw[l2];exact T.sz,(fun E' h=>by cases h),fun _=>rfl⟩,fun k=>?_,?_⟩
     · have h1:=lk k
       rw[none_of_bare P2.e0 bare]at h1;refine Eq.trans (show sLook f m (moves f m E M.nw M.mv (due pc M)).2 k=_ from h1) ?_;unfold tLook onE;rw[e]
     have h1:=tot_bare bare;unfold cnt;rw[e];show 0+tot (moves f m E M.nw M.mv (due pc M)).2=tot E+tot M.nw;omega
   have eg:goOn f m pc M=⟨some (moves f m E M.nw M.mv (due pc M)).1,M.mv+due pc M,(moves f m E M.nw M.mv (due pc M)).2⟩:=by unfold goOn;rw[e];exact if_neg z
   rw[eg];have:=due_le (pc:=pc) e hm;refine⟨⟨P2.n,by show isSize (moves f m E M.nw M.mv (due pc M)).2.length;rw[l2];exact T.sz,(fun E' h=>by
    cases h;exact⟨P2.e,by rw[l1];exact s,by show M.mv+due pc M < _;rw[l1];omega,P2.bare,P2.dis⟩),fun h=>by cases h⟩,fun k=>?_,?_⟩
   · have h1:=lk k
     unfold tLook onE;rw[e];exact h1
   unfold cnt;rw[e];exact tt
theorem putAt_ok{f m:Int}{M:MT}{k v:Int}(T:TOk f m M):TOk f m (putAt f m M k v)/\(∀ j,tLook f m (putAt f m M k v) j=if j=k then some v else tLook f m M j)/\cnt (putAt f m M k v)=cnt M+(if tLook f m M k=none then 1 else 0):=by
 have n0:=T.sz.pos;cases e:M.el with
 | none=>
   have eg:putAt f m M k v={ M with nw:=sPut f m M.nw k v }:=by unfold putAt;rw[e]
   rw[eg];refine⟨⟨T.nw.put n0,by show isSize (sPut f m M.nw k v).length;rw[sPut_len];exact T.sz,(fun E h=>by rw[show M.el=none from e]at h;cases h),T.no⟩,fun j=>?_,?_⟩
   · unfold tLook onE
     simp only[e];exact sLook_put n0
   unfold cnt tLook onE;simp only[e];rw[sPut_tot n0];omega
 | some E=>
   obtain⟨P,s,hm,b,d⟩:=T.el E e;by_cases z:sLook f m E k=none
   · have eg:putAt f m M k v={ M with nw:=sPut f m M.nw k v }:=by unfold putAt;rw[e];exact if_pos z
     rw[eg];refine⟨⟨T.nw.put n0,by show isSize (sPut f m M.nw k v).length;rw[sPut_len];exact T.sz,(fun E' h=>?_),T.no⟩,fun j=>?_,?_⟩
     · obtain rfl:E=E':=Option.some.inj (e.symm.trans h)
       refine⟨P,s,hm,b,fun j hj=>?_⟩;show sLook f m (sPut f m M.nw k v) j=none;rw[sLook_put n0,if_neg (fun q=>hj (by rw[q];exact z))]
       exact d j hj
     · unfold tLook onE
       simp only[e];by_cases q:j=k
       · subst q
         rw[z,if_pos rfl];show sLook f m (sPut f m M.nw j v) j=_;rw[sLook_put n0,if_pos rfl]
       rw[if_neg q];show(match sLook f m E j with | some v=>some v | none=>sLook f m (sPut f m M.nw k v) j)=_;rw[sLook_put n0,if_neg q]
     unfold cnt tLook onE;simp only[e,z];rw[sPut_tot n0];omega
   have eg:putAt f m M k v={ M with el:=some (sPut f m E k v) }:=by unfold putAt;rw[e];exact if_neg z
   rw[eg];have e0:=s.pos;refine⟨⟨T.nw,T.sz,(fun E' h=>?_),fun h=>by cases h⟩,fun j=>?_,?_⟩
   · cases h
     refine⟨P.put e0,by rw[sPut_len];exact s,by rw[sPut_len];exact hm,fun i r hi er=>?_,fun j hj=>?_⟩
     · have hi:i < M.mv:=hi
       have hpl:plc f m E.length k≠i:=fun q=>z (by
        rw[sLook_getD,q,b i _ hi (getD_get (by omega))]
        rfl)
       unfold sPut at er;rw[List.getElem?_set_ne hpl]at er;exact b i r hi er
     rw[sLook_put e0]at hj;by_cases q:j=k
     · rw[q];exact d k z
     rw[if_neg q]at hj;exact d j hj
   · unfold tLook onE
     simp only[e];rw[sLook_put e0];by_cases q:j=k
     · rw[if_pos q,if_pos q]
     rw[if_neg q,if_neg q]
   unfold cnt tLook onE;simp only[e];rw[sPut_tot e0,if_neg z];cases q:sLook f m E k with
   | none=>exact absurd q z
   | some x=>simp
theorem cutAt_ok{f m:Int}{M:MT}{k:Int}(T:TOk f m M):TOk f m (cutAt f m M k)/\(∀ j,tLook f m (cutAt f m M k) j=if j=k then none else tLook f m M j)/\cnt (cutAt f m M k)+(if tLook f m M k=none then 0 else 1)=cnt M:=by
 have n0:=T.sz.pos;cases e:M.el with
 | none=>
   have eg:cutAt f m M k={ M with nw:=sCut f m M.nw k }:=by unfold cutAt;rw[e]
   rw[eg];have ct:=sCut_tot (f:=f) (m:=m) (k:=k) n0 T.nw.ok;refine⟨⟨T.nw.cut n0,by show isSize (sCut f m M.nw k).length;rw[sCut_len];exact T.sz,(fun E h=>by rw[show M.el=none from e]at h;cases h),T.no⟩,fun j=>?_,?_⟩
   · unfold tLook onE
     simp only[e];exact sLook_cut n0
   unfold cnt tLook onE;simp only[e];omega
 | some E=>
   obtain⟨P,s,hm,b,d⟩:=T.el E e;by_cases z:sLook f m E k=none
   · have eg:cutAt f m M k={ M with nw:=sCut f m M.nw k }:=by unfold cutAt;rw[e];exact if_pos z
     rw[eg];have ct:=sCut_tot (f:=f) (m:=m) (k:=k) n0 T.nw.ok;refine⟨⟨T.nw.cut n0,by show isSize (sCut f m M.nw k).length;rw[sCut_len];exact T.sz,(fun E' h=>?_),T.no⟩,fun j=>?_,?_⟩
     · obtain rfl:E=E':=Option.some.inj (e.symm.trans h)
       refine⟨P,s,hm,b,fun j hj=>?_⟩;show sLook f m (sCut f m M.nw k) j=none;rw[sLook_cut n0];split
       · rfl
       exact d j hj
     · unfold tLook onE
       simp only[e];by_cases q:j=k
       · subst q
         rw[z,if_pos rfl];show sLook f m (sCut f m M.nw j) j=_;rw[sLook_cut n0,if_pos rfl]
       rw[if_neg q];show(match sLook f m E j with | some v=>some v | none=>sLook f m (sCut f m M.nw k) j)=_;rw[sLook_cut n0,if_neg q]
     unfold cnt tLook onE;simp only[e,z];omega
   have eg:cutAt f m M k={ M with el:=some (sCut f m E k) }:=by unfold cutAt;rw[e];exact if_neg z
   rw[eg];have e0:=s.pos;have ct:=sCut_tot (f:=f) (m:=m) (k:=k) e0 P.ok;rw[if_neg z]at ct;refine⟨⟨T.nw,T.sz,(fun E' h=>?_),fun h=>by cases h⟩,fun j=>?_,?_⟩
   · cases h
     refine⟨P.cut e0,by rw[sCut_len];exact s,by rw[sCut_len];exact hm,fun i r hi er=>?_,fun j hj=>?_⟩
     · have hi:i < M.mv:=hi
       have hpl:plc f m E.length k≠i:=fun q=>z (by
        rw[sLook_getD,q,b i _ hi (getD_get (by omega))]
        rfl)
       unfold sCut at er;rw[List.getElem?_set_ne hpl]at er;exact b i r hi er
     rw[sLook_cut e0]at hj;by_cases q:j=k
     · rw[if_pos q]at hj;exact absurd rfl hj
     rw[if_neg q]at hj;exact d j hj
   · unfold tLook onE
     simp only[e];rw[sLook_cut e0];by_cases q:j=k
     · subst q
       rw[if_pos rfl,if_pos rfl];exact d j z
     rw[if_neg q,if_neg q]
   unfold cnt tLook onE;simp only[e];cases q:sLook f m E k with
   | none=>exact absurd q z
   | some x=>simp;omega
theorem want_size{N:MRows}(h:isSize N.length):isSize (want N):=by
 unfold want;generalize tot N=t;unfold isSize at h;simp only[List.mem_cons,List.not_mem_nil,or_false]at h;rcases h with h | h | h | h | h | h | h | h | h | h | h <;> rw[h] <;> (split;· unfold isSize;decide) <;> (split;· unfold isSize;decide) <;> (unfold isSize;decide)
theorem beg_ok{f m:Int}{M:MT}(T:TOk f m M):TOk f m (beg M)/\(∀ j,tLook f m (beg M) j=tLook f m M j)/\cnt (beg M)=cnt M:=by
 cases e:M.el with
 | some E=>
   have:beg M=M:=by unfold beg;rw[e]
   rw[this];exact⟨T,fun _=>rfl,rfl⟩
 | none=>
   by_cases z:want M.nw=M.nw.length
   · have:beg M=M:=by unfold beg;rw[e];exact if_pos z
     rw[this];exact⟨T,fun _=>rfl,rfl⟩
   have eg:beg M=⟨some M.nw,M.mv,List.replicate (want M.nw) []⟩:=by unfold beg;rw[e];exact if_neg z
   rw[eg];have ws:=want_size T.sz;have hz:∀ k,sLook f m (List.replicate (want M.nw) []) k=none:=fun k=>none_of_bare (by rw[List.length_replicate];exact ws.pos) (fun j r _ er=>List.eq_of_mem_replicate (List.mem_of_getElem? er)) k
   refine⟨⟨POk.rep,by show isSize (List.replicate (want M.nw) []).length;rw[List.length_replicate];exact ws,(fun E h=>by
    cases h;exact⟨T.nw,T.sz,by rw[T.no e];exact T.sz.pos,fun i r hi=>absurd hi (by rw[T.no e];exact Nat.not_lt_zero _),fun k _=>hz k⟩),fun h=>by cases h⟩,fun j=>?_,?_⟩
   · unfold tLook onE
     simp only[e];show(match sLook f m M.nw j with | some v=>some v | none=>sLook f m (List.replicate (want M.nw) []) j)=_;rw[hz];cases sLook f m M.nw j <;> rfl
   unfold cnt;simp only[e];rw[tot_rep];omega
noncomputable def tfl(t:Addr)(pc:Int)(el:V)(mv:Int)(n:Addr)(tc:Int):List (Str×V):=[("mixer",.ref t),("pace",.int pc),("elder",el),("moved",.int mv),("newer",.ref n),("touches",.int tc)]
section
variable(t:Addr)(pc:Int)(el:V)(mv:Int)(n:Addr)(tc:Int)
theorem tfl_mixer:(tfl t pc el mv n tc).lookup ("mixer":Str)=some (.ref t):=by kernel_rfl
theorem tfl_pace:(tfl t pc el mv n tc).lookup ("pace":Str)=some (.int pc):=by kernel_rfl
theorem tfl_elder:(tfl t pc el mv n tc).lookup ("elder":Str)=some el:=by kernel_rfl
theorem tfl_moved:(tfl t pc el mv n tc).lookup ("moved":Str)=some (.int mv):=by kernel_rfl
theorem tfl_newer:(tfl t pc el mv n tc).lookup ("newer":Str)=some (.ref n):=by kernel_rfl
theorem tfl_touches:(tfl t pc el mv n tc).lookup ("touches":Str)=some (.int tc):=by kernel_rfl
theorem put_elder(v:V):putF "elder" v (tfl t pc el mv n tc)=tfl t pc v mv n tc:=by kernel_rfl
theorem put_moved(z:Int):putF "moved" (.int z) (tfl t pc el mv n tc)=tfl t pc el z n tc:=by kernel_rfl
theorem put_newer(z:Addr):putF "newer" (.ref z) (tfl t pc el mv n tc)=tfl t pc el mv z tc:=by kernel_rfl
theorem put_touches(z:Int):putF "touches" (.int z) (tfl t pc el mv n tc)=tfl t pc el mv n z:=by kernel_rfl
theorem tfl_mk:putF "touches" (.int tc) (putF "newer" (.ref n) (putF "moved" (.int mv) (putF "elder" el (putF "pace" (.int pc) (putF "mixer" (.ref t) [])))))=tfl t pc el mv n tc:=by kernel_rfl
end
structure NoT(x:Str):Prop where
 no:∀(t:Addr) (pc:Int) (el:V) (mv:Int) (n:Addr) (tc:Int),(tfl t pc el mv n tc).lookup x=none
theorem nt_look:NoT "look":=⟨fun _ _ _ _ _ _=>by kernel_rfl⟩
theorem nt_state:NoT "state":=⟨fun _ _ _ _ _ _=>by kernel_rfl⟩
theorem nt_touched:NoT "touched":=⟨fun _ _ _ _ _ _=>by kernel_rfl⟩
theorem nt_go_on:NoT "go_on":=⟨fun _ _ _ _ _ _=>by kernel_rfl⟩
theorem nt_due_places:NoT "due_places":=⟨fun _ _ _ _ _ _=>by kernel_rfl⟩
theorem nt_move_place:NoT "move_place":=⟨fun _ _ _ _ _ _=>by kernel_rfl⟩
theorem nt_end_move:NoT "end_move":=⟨fun _ _ _ _ _ _=>by kernel_rfl⟩
theorem nt_stands_on_elder:NoT "stands_on_elder":=⟨fun _ _ _ _ _ _=>by kernel_rfl⟩
theorem nt_shelf_with:NoT "shelf_with":=⟨fun _ _ _ _ _ _=>by kernel_rfl⟩
theorem nt_begin_move:NoT "begin_move":=⟨fun _ _ _ _ _ _=>by kernel_rfl⟩
theorem nt_wanted_size:NoT "wanted_size":=⟨fun _ _ _ _ _ _=>by kernel_rfl⟩
noncomputable def ElAt(CS:Addr)(H:Hp)(f m:Int)(v:V)(o:Option MRows)(FE:Addr->Prop):Prop:=match o with
 | none=>v=.non /\ ∀ b,¬ FE b
 | some E=>∃ e,v=.ref e/\Sh CS H e f m E FE
structure TbX(CS CT:Addr)(H:Hp)(p:Addr)(f m:Int)(pc:Nat)(M:MT)(tc:Int)(t n:Addr)(v:V)(FN FE:Addr->Prop):Prop where
 ob:∃ dx,H p=some (.ins CT dx (tfl t pc v M.mv n tc))
 mx:H t=some (.tup [.int f,.int m])
 bm:0<=f/\f<=65535
 nw:Sh CS H n f m M.nw FN
 el:ElAt CS H f m v M.el FE
 ne:∀ b,FE b -> ¬ FN b
 np:¬ FN p /\ ¬ FE p
noncomputable def Tb(CS CT:Addr)(H:Hp)(p:Addr)(f m:Int)(pc:Nat)(M:MT)(tc:Int)(F:Addr->Prop):Prop:=∃ t n v FN FE,TbX CS CT H p f m pc M tc t n v FN FE /\ ∀ b,F b ↔ (b=p∨FN b∨FE b)
section
variable{CS CT:Addr}{H H':Hp}{p:Addr}{f m:Int}{pc:Nat}{M:MT}{tc:Int}{t n:Addr}{v:V}{FN FE F G:Addr->Prop}
theorem ElAt.keep{o:Option MRows}(S:ElAt CS H f m v o FE)(k:Fr G H H')(d:∀ b,FE b -> ¬ G b)(dt:∀ b xs,H b=some (.tup xs) -> ¬ G b):ElAt CS H' f m v o FE:=by
 cases o with
 | none=>exact S
 | some E=>
   obtain⟨e,he,S⟩:=S;exact⟨e,he,S.keep k d dt⟩
theorem ElAt.live{o:Option MRows}(S:ElAt CS H f m v o FE){b:Addr}(h:FE b):∃ o',H b=some o' /\ ∀ xs,o' ≠ .tup xs:=by
 cases o with
 | none=>exact absurd h (S.2 b)
 | some E=>
   obtain⟨e,he,S⟩:=S;exact S.live h
theorem Tb.live(S:Tb CS CT H p f m pc M tc F){b:Addr}(h:F b):∃ o',H b=some o' /\ ∀ xs,o' ≠ .tup xs:=by
 obtain⟨t,n,v,FN,FE,X,hF⟩:=S;rcases(hF b).mp h with rfl | h | h
 · obtain⟨dx,e⟩:=X.ob
   exact⟨_,e,fun xs z=>by cases z⟩
 · exact X.nw.live h
 exact X.el.live h
theorem Tb.fresh(S:Tb CS CT H p f m pc M tc F){b:Addr}(h:H b=none):¬ F b:=fun z=>by
 obtain⟨o,e,_⟩:=S.live z;rw[h]at e;cases e
theorem Tb.notup(S:Tb CS CT H p f m pc M tc F){b:Addr}{xs:List V}(h:H b=some (.tup xs)):¬ F b:=fun z=>by
 obtain⟨o,e,nn⟩:=S.live z;rw[h]at e;cases e;exact nn _ rfl
theorem Tb.keep(S:Tb CS CT H p f m pc M tc F)(k:Fr G H H')(d:∀ b,F b -> ¬ G b)(dt:∀ b xs,H b=some (.tup xs) -> ¬ G b):Tb CS CT H' p f m pc M tc F:=by
 obtain⟨t,n,v,FN,FE,X,hF⟩:=S;obtain⟨dx,e⟩:=X.ob;exact⟨t,n,v,FN,FE,⟨⟨dx,k _ _ (d p ((hF p).mpr (.inl rfl))) e⟩,k _ _ (dt _ _ X.mx) X.mx,X.bm,X.nw.keep k (fun b hb=>d b ((hF b).mpr (.inr (.inl hb)))) dt,X.el.keep k (fun b hb=>d b ((hF b).mpr (.inr (.inr hb)))) dt,X.ne,X.np⟩,hF⟩
theorem Tb.same(S:Tb CS CT H p f m pc M tc F)(k:Same H H'):Tb CS CT H' p f m pc M tc F:=
 S.keep (G:=fun _=>False) (fun b o _ e=>k b o e) (fun _ _ z=>z) fun _ _ _ z=>z
theorem Tb.self(S:Tb CS CT H p f m pc M tc F):F p:=by
 obtain⟨t,n,v,FN,FE,X,hF⟩:=S;exact(hF p).mpr (.inl rfl)
end
noncomputable abbrev Gr(H:Hp)(F F':Addr->Prop):Prop:=∀ b,F' b->F b∨H b=none
noncomputable def spTDue(CS CT:Addr):Sp:=fun vs H Q _=>∃(p:Addr) (f m:Int) (pc:Nat) (M:MT) (tc:Int) (F:Addr->Prop),vs=[.ref p]/\Tb CS CT H p f m pc M tc F/\TOk f m M/\pc<=1000 /\
 ∀ l H',Same H H'->H l=none->H' l=some (.lst ((seqI M.mv (due pc M)).map V.int))->Q (.ref l) H'
noncomputable def spTMove(CS CT:Addr):Sp:=fun vs H Q _=>∃(p:Addr) (i:Nat) (f m:Int) (pc:Nat) (E N:MRows) (mv:Nat) (tc:Int) (F:Addr->Prop),vs=[.ref p,.int i]/\Tb CS CT H p f m pc ⟨some E,mv,N⟩ tc F/\i < E.length/\Pair f m E N i/\tot E+tot N<=90000 /\
 ∀ l H' F',Tb CS CT H' p f m pc ⟨some (E.set i []),mv,putAll f m N (E.getD i [])⟩ tc F'->Gr H F F'->Fr F H H'->H l=none -> ¬ F' l->H' l=some (.lst (((E.getD i []).map fun q=>((plc f m N.length q.1:Nat):Int)).map V.int))->Q (.ref l) H'
noncomputable def endM(M:MT):MT:=match M.el with
 | none=>M
 | some E=>if M.mv=E.length then⟨none,0,M.nw⟩else M
noncomputable def spTEnd(CS CT:Addr):Sp:=fun vs H Q _=>∃(p:Addr) (f m:Int) (pc:Nat) (M:MT) (tc:Int) (F:Addr->Prop),vs=[.ref p]/\Tb CS CT H p f m pc M tc F /\
 ∀ H' F',Tb CS CT H' p f m pc (endM M) tc F'->Gr H F F'->Fr F H H'->Q .non H'
noncomputable def standsE(f m:Int)(M:MT)(k:Int):Bool:=match M.el with
 | none=>false
 | some E=>decide (M.mv<=plc f m E.length k)
noncomputable def spTStands(CS CT:Addr):Sp:=fun vs H Q _=>∃(p:Addr) (k f m:Int) (pc:Nat) (M:MT) (tc:Int) (F:Addr->Prop),vs=[.ref p,.int k]/\Tb CS CT H p f m pc M tc F/\Q (.bl (standsE f m M k)) H
noncomputable def spTGo(CS CT:Addr):Sp:=fun vs H Q _=>∃(p:Addr) (k f m:Int) (pc:Nat) (M:MT) (tc:Int) (F:Addr->Prop),vs=[.ref p,.int k]/\Tb CS CT H p f m pc M tc F/\TOk f m M/\pc<=1000/\(cnt M<=4000∨M.el=none) /\
 ∀ H' F',Tb CS CT H' p f m pc (goOn f m pc M) (tch f m pc M k) F'->Gr H F F'->Fr F H H'->Q .non H'
noncomputable def spTWith(CS CT:Addr):Sp:=fun vs H Q _=>∃(p:Addr) (k f m:Int) (pc:Nat) (M:MT) (tc:Int) (t n:Addr) (v:V) (FN FE:Addr->Prop),vs=[.ref p,.int k]/\TbX CS CT H p f m pc M tc t n v FN FE /\
 (∀ E,M.el=some E->sLook f m E k≠none->Q v H)/\(onE f m M k=none->Q (.ref n) H)
noncomputable def spTWant(CS CT:Addr):Sp:=fun vs H Q _=>∃(p:Addr) (f m:Int) (pc:Nat) (M:MT) (tc:Int) (F:Addr->Prop),vs=[.ref p]/\Tb CS CT H p f m pc M tc F/\Q (.int (want M.nw:Nat)) H
noncomputable def spTBegin(CS CT:Addr):Sp:=fun vs H Q _=>∃(p:Addr) (f m:Int) (pc:Nat) (M:MT) (tc:Int) (F:Addr->Prop),vs=[.ref p]/\Tb CS CT H p f m pc M tc F/\isSize M.nw.length /\
 ∀ H' F',Tb CS CT H' p f m pc (beg M) tc F'->Gr H F F'->Fr F H H'->Q .non H'
noncomputable def mPut(f m:Int)(pc:Nat)(M:MT)(k v:Int):MT:=beg (putAt f m (goOn f m pc M) k v)
noncomputable def mCut(f m:Int)(pc:Nat)(M:MT)(k:Int):MT:=beg (cutAt f m (goOn f m pc M) k)
noncomputable def mLook(f m:Int)(pc:Nat)(M:MT):MT:=beg (goOn f m pc M)
noncomputable def spTLook(CS CT:Addr):Sp:=fun vs H Q _=>∃(p:Addr) (k f m:Int) (pc:Nat) (M:MT) (tc:Int) (F:Addr->Prop),vs=[.ref p,.int k]/\Tb CS CT H p f m pc M tc F/\TOk f m M/\pc<=1000/\cnt M<=4000 /\
 ∀ H' F',Tb CS CT H' p f m pc (mLook f m pc M) (tch f m pc M k) F'->Gr H F F'->Fr F H H'->Q (oV (tLook f m M k)) H'
noncomputable def PrT(K:W.Frag)(H:Hp)(v:V)(p:Int×Int):Prop:=∃ a,v=.ref a/\SqT K H a [.int p.1,.int p.2]
noncomputable def RowT(K:W.Frag)(H:Hp)(v:V)(r:MRow):Prop:=∃ b ys,v=.ref b/\SqT K H b ys/\Paired (PrT K H) ys r
noncomputable def RowsT(K:W.Frag)(H:Hp)(a:Addr)(R:MRows):Prop:=∃ xs,SqT K H a xs/\Paired (RowT K H) xs R
noncomputable def laid(f m:Int)(R:MRows):MRows:=R.foldl (fun N r=>putAll f m N r) (List.replicate R.length [])
noncomputable def spShelfOf(K:W.Frag)(CS:Addr):Sp:=fun vs H Q _=>∃(a t:Addr) (f m:Int) (R:MRows),vs=[.ref a,.ref t]/\RowsT K H a R/\isSize R.length/\tot R<=5000/\H t=some (.tup [.int f,.int m])/\(0<=f/\f<=65535) /\
 ∀ p H' F,Sh CS H' p f m (laid f m R) F->(∀ b,F b->H b=none)->Same H H'->Q (.ref p) H'
noncomputable def M0:MT:=⟨none,0,List.replicate 4 []⟩
section
variable{CS CT:Addr}{H:Hp}{Q:VK}{E:XK}{p:Addr}{k y f m:Int}{pc:Nat}{M:MT}{tc:Int}{F:Addr->Prop}
theorem wT{x:Str}{P:Prop}(S:Tb CS CT H p f m pc M tc F)(hn:NoT x)(h:P):∃ a dx fs,V.ref p=.ref a/\H a=some (.ins CT dx fs)/\fs.lookup x=none/\P:=by
 obtain⟨t,n,v,FN,FE,X,hF⟩:=S;obtain⟨dx,e⟩:=X.ob;exact⟨p,dx,_,rfl,e,hn.no _ _ _ _ _ _,h⟩
theorem wTLook(S:Tb CS CT H p f m pc M tc F)(T:TOk f m M)(hp:pc<=1000)(hc:cnt M<=4000)(q:∀ H' F',Tb CS CT H' p f m pc (mLook f m pc M) (tch f m pc M k) F'->Gr H F F'->Fr F H H'->Q (oV (tLook f m M k)) H'):spTLook CS CT (V.ref p::([V.int k]++[])) H Q E:=⟨p,k,f,m,pc,M,tc,F,rfl,S,T,hp,hc,q⟩
end
theorem moves_snoc{f m:Int}:∀(j:Nat) (E N:MRows) (i:Nat),moves f m E N i (j+1)=((moves f m E N i j).1.set (i+j) [],putAll f m (moves f m E N i j).2 ((moves f m E N i j).1.getD (i+j) []))
 | 0,E,N,i=>rfl
 | j+1,E,N,i=>by
   show moves f m (E.set i []) (putAll f m N (E.getD i [])) (i+1) (j+1)=_;rw[moves_snoc j];have e:i+1+j=i+(j+1):=by omega
   rw[e]
   rfl
theorem moves_getD{f m:Int}:∀(j:Nat) (E N:MRows) (i k:Nat),i+j<=k->i+j<=E.length->(moves f m E N i j).1.getD k []=E.getD k []
 | 0,_,_,_,_,_,_=>rfl
 | j+1,E,N,i,k,h,hl=>by
   show(moves f m (E.set i []) (putAll f m N (E.getD i [])) (i+1) j).1.getD k []=_;rw[moves_getD j _ _ _ _ (by omega) (by rw[List.length_set];omega),set_getD (by omega),if_neg (by omega)]
theorem reach_snoc{f m:Int}{n:Nat}:∀(j:Nat) (E:MRows) (i:Nat),reach f m n E i (j+1)=reach f m n E i j++(E.getD (i+j) []).map fun p=>((plc f m n p.1:Nat):Int)
 | 0,E,i=>by
   show((E.getD i []).map fun p=>((plc f m n p.1:Nat):Int))++[]=[]++_;rw[List.append_nil,List.nil_append]
   rfl
 | j+1,E,i=>by
   show((E.getD i []).map fun p=>((plc f m n p.1:Nat):Int))++reach f m n E (i+1) (j+1)=(((E.getD i []).map fun p=>((plc f m n p.1:Nat):Int))++reach f m n E (i+1) j)++_;rw[reach_snoc j,List.append_assoc,show i+1+j=i+(j+1) by omega]
theorem moves_len1{f m:Int}:∀(j:Nat) (E N:MRows) (i:Nat),(moves f m E N i j).1.length=E.length
 | 0,_,_,_=>rfl
 | j+1,E,N,i=>by
   rw[moves_snoc];show((moves f m E N i j).1.set (i+j) []).length=_;rw[List.length_set,moves_len1 j]
theorem moves_len2{f m:Int}:∀(j:Nat) (E N:MRows) (i:Nat),(moves f m E N i j).2.length=N.length
 | 0,_,_,_=>rfl
 | j+1,E,N,i=>by
   rw[moves_snoc];show(putAll f m (moves f m E N i j).2 _).length=_;rw[putAll_len,moves_len2 j]
theorem reach_tot{f m:Int}{n:Nat}:∀(j:Nat) (E N:MRows) (i:Nat),i+j<=E.length->tot (moves f m E N i j).1+(reach f m n E i j).length=tot E
 | 0,_,_,_,_=>rfl
 | j+1,E,N,i,h=>by
   have ih:=reach_tot (f:=f) (m:=m) (n:=n) j E N i (by omega)
   have t:=tot_set (moves f m E N i j).1 (i+j) [] (by rw[moves_len1];omega)
   rw[moves_getD j E N i (i+j) (Nat.le_refl _) (by omega)]at t
   rw[moves_snoc,reach_snoc,List.length_append,List.length_map];show tot ((moves f m E N i j).1.set (i+j) [])+_=_;have e0:([]:MRow).length=0:=rfl;omega
theorem tot_putAll_le{f m:Int}:∀{r:MRow}{N:MRows},0 < N.length->tot (putAll f m N r)<=tot N+r.length
 | [],_,_=>Nat.le_refl _
 | p::r,N,h=>by
   show tot (putAll f m (sPut f m N p.1 p.2) r)<=_;have:=tot_putAll_le (f:=f) (m:=m) (r:=r) (N:=sPut f m N p.1 p.2) (by rw[sPut_len];exact h)
   rw[sPut_tot h]at this;rw[List.length_cons];split at this <;> omega
theorem putAll_take{f m:Int}{N:MRows}{r:MRow}{j:Nat}{p:Int×Int}(h:r[j]?=some p):putAll f m N (r.take (j+1))=sPut f m (putAll f m N (r.take j)) p.1 p.2:=by
 rw[List.take_add_one,h];unfold putAll;rw[List.foldl_append]
 rfl
noncomputable def mid(f m:Int)(M:MT)(j:Nat):MT:=match M.el with
 | none=>M
 | some E=>⟨some (moves f m E M.nw M.mv j).1,M.mv,(moves f m E M.nw M.mv j).2⟩
noncomputable def rch(f m:Int)(M:MT)(j:Nat):List Int:=match M.el with
 | none=>[]
 | some E=>reach f m M.nw.length E M.mv j
theorem Gr.trans{H H1:Hp}{F F1 F2:Addr->Prop}(a:Gr H F F1)(k:Fr F H H1)(b:Gr H1 F1 F2):Gr H F F2:=fun c hc=>by
 rcases b c hc with z | z
 · exact a c z
 by_cases hF:F c
 · exact .inl hF
 cases e:H c with
 | none=>exact .inr rfl
 | some o=>rw[k c o hF e]at z;cases z
section
variable{CS CT:Addr}{H H':Hp}{p:Addr}{f m:Int}{pc:Nat}{M:MT}{tc:Int}{t n:Addr}{v:V}{FN FE F G:Addr->Prop}
theorem TbX.tb(X:TbX CS CT H p f m pc M tc t n v FN FE):Tb CS CT H p f m pc M tc (fun b=>b=p∨FN b∨FE b):=⟨t,n,v,FN,FE,X,fun _=>Iff.rfl⟩
end
theorem endM_go{f m:Int}{pc:Nat}{M:MT}:endM { mid f m M (due pc M)with mv:=M.mv+due pc M }=goOn f m pc M:=by
 unfold endM mid goOn;cases e:M.el with
 | none=>
   have:due pc M=0:=by unfold due;rw[e]
   simp only[e,this];cases M;simp at e;subst e
   rfl
 | some E=>
   simp only[moves_len1]
theorem tch_eq{f m:Int}{pc:Nat}{M:MT}{k:Int}:tch f m pc M k=due pc M+nDist (((plc f m M.nw.length k:Nat):Int)::rch f m M (due pc M))+(if standsE f m (goOn f m pc M) k=true then 1 else 0):=by
 unfold tch rch standsE
 congr 1
 cases (goOn f m pc M).el with
 | none=>rfl
 | some E=>
   simp only[];by_cases z:(goOn f m pc M).mv<=plc f m E.length k
   · rw[if_pos z,if_pos (decide_eq_true z)]
   rw[if_neg z,if_neg (by rw[decide_eq_false z];exact Bool.false_ne_true)]
theorem tLook_el{f m:Int}{M:MT}{k:Int}{E:MRows}(e:M.el=some E)(h:sLook f m E k≠none):sLook f m E k=tLook f m M k:=by
 unfold tLook onE;rw[e];cases z:sLook f m E k with
 | none=>exact absurd z h
 | some x=>simp[z]
theorem tLook_nw{f m:Int}{M:MT}{k:Int}(h:onE f m M k=none):sLook f m M.nw k=tLook f m M k:=by
 unfold tLook;rw[h]
theorem wITup{K:W.Frag}{σ:L2.St}{H:Hp}{tl:TE}{R:It->Hp->Prop}(h:tl σ H fun x H1=>∃ a,x=.ref a/\(∃ xs,SqT K H1 a xs)/\R (Itt K a) H1):iTup K tl σ H R:=h
theorem wDIn{σ:L2.St}{H:Hp}{Q:VK}{td ty:TE}(h:ty σ H fun y H1=>td σ H1 fun x H2=>∃ a o,x=.ref a/\DGet H2 a y o/\Q (.bl o.isSome) H2):tDIn ty td σ H Q:=h
namespace B
theorem tdin{X:Cx}{a d:Expr}{ty td:TE}{pos:Pos}(hu:X.A.units+1 < cLine)(hk:Bx (PE X a ty))(hd:Bx (PE X d td))(h1:behindInMarks .In d=false:=by first | rfl | with_unfolding_all rfl):Bx (PT X (.Compare a [.In] [d] pos) (tB (tDIn ty td))):=⟨pt_cmp (pc_din hu hk.out hd.out) h1⟩
end B
inductive Deed where
 | put (k v:Int)
 | look (k:Int)
 | cut (k:Int)
noncomputable def deedM(f m:Int)(pc:Nat)(M:MT):Deed->MT
 | .put k v=>mPut f m pc M k v
 | .look _=>mLook f m pc M
 | .cut k=>mCut f m pc M k
section
variable{X:Cx}{scope:Scope}{cl:List (Str×Addr)}{os:List Str}{js:List Nat}{N':List Str}{pins:List (Addr×Obj)}{σ:L2.St}{H:Hp}{s:Shared}{fp:List Addr}
end
section
variable{X:Cx}{scope:Scope}{cl:List (Str×Addr)}{os:List Str}{js:List Nat}{N':List Str}{elt iter:Expr}{ifs:List Expr}{tgt:Expr}{pos:Pos}{wi:TI}{gt:TG}{tt:TT}{te:TE}
end
namespace B
section
variable{X:Cx}{scope:Scope}{cl:List (Str×Addr)}{tgt:Expr}{N':List Str}{elt iter c:Expr}{pos:Pos}{wi:TI}{gt:TG}{te:TE}{tc:TT}{os:List Str}
end
end B
namespace B
end B
section
variable{prog:Program}{w:World}{A:Around}{E:Value->Shared->Prop}{s:Shared}
theorem tzItem{it l:Addr}{i:Nat}{xs:Array Value}{x:Value}{Q:Value->Shared->Prop}(gi:s.heap.IsTupleIter it l i)(gl:s.heap.IsTuple l xs)(ex:xs[i]?=some x)(q:∀ h',h'.IsTupleIter it l (i+1)->Heap.SameBut it s.heap h'->Q x { s with heap:=h' }) :
 wpAny (model prog w) A (Builtin.SmallTypes.nextOf (.ref it)) Q E s:=by
 obtain⟨u,g1,g2,g3⟩:=id gi;obtain⟨v,e1,_,n,e2⟩:=gl;unfold Builtin.SmallTypes.nextOf;refine wpAny_bind (wpAny_callSpecial?_slot (name:=Str.ofString "__next__") gi.typeIs F.slot_tuple_iterator_next (wpAny_call_entry F.slot_tuple_iterator_next gi.typeIs F.entry_tuple_iterator_next ?_ (F.args_tuple_iterator_next_1 _)));show wpAny _ _ (field (.ref it) 0 >>= _) _ _ _;refine wpAny_bind (wpAny_field g1 g3 (x:=.ref l) rfl (show wpAny _ _ (if(Value.ref l == Value.none)=true then _ else _) _ _ _ from ?_));rw[if_neg (fun z:(Value.ref l == Value.none)=true=>Bool.false_ne_true z)];show wpAny _ _ (field (.ref it) 1 >>= _) _ _ _;refine wpAny_bind (wpAny_field g1 g3 (x:=.int i 0) rfl (show wpAny _ _ (seqItems? (.ref l) >>= _) _ _ _ from wpAny_bind (wpAny_seqItems e1 e2 ?_)));simp only[Int.toNat_natCast,ex];refine wpAny_bind (wpAny_setField g1 g3 (by simp) (wpAny_pure ⟨x,rfl,wpAny_pure (q _ ⟨_,Heap.get?_update_self _ g1 (Obj.isFreed_of_fields (Obj.data_mapFields g3 _)),(Obj.cls_mapFields ..).trans g2,?_⟩ (Heap.SameBut.update ..))⟩))
 rw[Obj.data_mapFields g3];simp[rawInt]
theorem tzFin{it l:Addr}{i:Nat}{xs:Array Value}{Q:Value->Shared->Prop}(hh:A.handled=none)(gi:s.heap.IsTupleIter it l i)(gl:s.heap.IsTuple l xs)(ex:xs[i]?=none)
 (qE:∀ h' e,Heap.ExtBut it s.heap h'->(∃ o,h'.get? e=some o/\o.cls=.type "StopIteration")->E (.ref e) { s with heap:=h' }):wpAny (model prog w) A (Builtin.SmallTypes.nextOf (.ref it)) Q E s:=by
 obtain⟨u,g1,g2,g3⟩:=id gi;obtain⟨v,e1,_,n,e2⟩:=gl;unfold Builtin.SmallTypes.nextOf;refine wpAny_bind (wpAny_callSpecial?_slot (name:=Str.ofString "__next__") gi.typeIs F.slot_tuple_iterator_next (wpAny_call_entry F.slot_tuple_iterator_next gi.typeIs F.entry_tuple_iterator_next ?_ (F.args_tuple_iterator_next_1 _)));show wpAny _ _ (field (.ref it) 0 >>= _) _ _ _;refine wpAny_bind (wpAny_field g1 g3 (x:=.ref l) rfl (show wpAny _ _ (if(Value.ref l == Value.none)=true then _ else _) _ _ _ from ?_));rw[if_neg (fun z:(Value.ref l == Value.none)=true=>Bool.false_ne_true z)];show wpAny _ _ (field (.ref it) 1 >>= _) _ _ _;refine wpAny_bind (wpAny_field g1 g3 (x:=.int i 0) rfl (show wpAny _ _ (seqItems? (.ref l) >>= _) _ _ _ from wpAny_bind (wpAny_seqItems e1 e2 ?_)));simp only[Int.toNat_natCast,ex];refine wpAny_bind (wpAny_rule (wpAny_bind (wpAny_setField g1 g3 (by simp) (show wpAny _ _ (newExc (.type "StopIteration") [] >>= _) _ _ _ from wpAny_bind ?_))))
 simp only[newExc,newTuple];refine wpAny_bind (wpAny_newObj_type (wpAny_bind (m:=firstArgMember _ _) (wpAny_of_eq (a:=Value.none) (by first | rfl | (simp only[firstArgMember];rfl)) (wpAny_newObj_type ?_ (by size_fits)))) (by size_fits))
 simp only[raiseNew];refine wpAny_bind (wpAny_handled ?_)
 first | rw[show A.in1.handled=none from hh] | rw[hh]
 exact wpAny_bind (wpAny_pure (wpAny_throw (qE _ _ (((Heap.SameBut.update ..).extBut.push _).push _) ⟨_,Heap.get?_push_size _ rfl,rfl⟩)))
end
section
variable{X:Cx}{elts:List Expr}{k:Nat}{tp:Pos}
end
namespace B
end B
theorem call_tupleK(K:W.Frag){X:Cx}(h:X.K=K:=by rfl):CallR X (.type "tuple") (fun xs H Q=>∃ p ys,xs=[.ref p]/\((SqL K H p ys /\ ∀ l,H l=none->Q (.ref l) (upd H l (.tup ys)))∨(SqT K H p ys/\Q (.ref p) H))):=by subst h;exact call_tuple_of
theorem paired_snoc{α β:Type}{F:α -> β -> Prop}{x:α}{y:β}:∀{xs:List α}{ys:List β},Paired F xs ys->F x y->Paired F (xs++[x]) (ys++[y])
 | _,_,.nil,h=>.cons h .nil
 | _,_,.cons a t,h=>.cons a (paired_snoc t h)
noncomputable abbrev KeepT(H H':Hp):Prop:=∀ a xs,H a=some (.tup xs)->H' a=some (.tup xs)
theorem KeepT.same{H H':Hp}(s:Same H H'):KeepT H H':=fun a xs e=>s _ _ e
theorem KeepT.upd{H:Hp}{q:Addr}{o:HO}(h:∀ xs,H q≠some (.tup xs)):KeepT H (upd H q o):=fun a xs e=>by
 have n:a≠q:=fun z=>h xs (by rw[← z];exact e)
 rw[upd_ne n];exact e
noncomputable def RowU(H:Hp)(v:V)(r:MRow):Prop:=∃ b ys,v=.ref b/\H b=some (.tup ys)/\Prs H ys r
noncomputable def RowsU(H:Hp)(v:V)(R:MRows):Prop:=∃ a xs,v=.ref a/\H a=some (.tup xs)/\Paired (RowU H) xs R
noncomputable def ElU(H:Hp)(v:V):Option MRows->Prop
 | none=>v=.non
 | some E=>RowsU H v E
noncomputable def StU(H:Hp)(v:V)(M:MT):Prop:=∃ a e w,v=.ref a/\H a=some (.tup [e,.int (M.mv:Nat),w])/\ElU H e M.el/\RowsU H w M.nw
theorem RowU.keep{H H':Hp}{v:V}{r:MRow}(h:RowU H v r)(k:KeepT H H'):RowU H' v r:=by
 obtain⟨b,ys,e,hb,p⟩:=h;exact⟨b,ys,e,k _ _ hb,p.keep k⟩
theorem RowsU.keep{H H':Hp}{v:V}{R:MRows}(h:RowsU H v R)(k:KeepT H H'):RowsU H' v R:=by
 obtain⟨b,ys,e,hb,p⟩:=h;exact⟨b,ys,e,k _ _ hb,Paired.mapP p fun _ _ z=>RowU.keep z k⟩
theorem ElU.keep{H H':Hp}{v:V}{o:Option MRows}(h:ElU H v o)(k:KeepT H H'):ElU H' v o:=by
 cases o with
 | none=>exact h
 | some E=>exact RowsU.keep h k
theorem StU.keep{H H':Hp}{v:V}{M:MT}(h:StU H v M)(k:KeepT H H'):StU H' v M:=by
 obtain⟨a,e,w,hv,ha,he,hw⟩:=h;exact⟨a,e,w,hv,k _ _ ha,he.keep k,hw.keep k⟩
noncomputable def spRowsOf(CS:Addr):Sp:=fun vs H Q _=>∃(p:Addr) (f m:Int) (R:MRows) (F:Addr->Prop),vs=[.ref p]/\Sh CS H p f m R F /\ ∀ v H',Same H H'->RowsU H' v R->Q v H'
noncomputable def spTState(CS CT:Addr):Sp:=fun vs H Q _=>∃(p:Addr) (f m:Int) (pc:Nat) (M:MT) (tc:Int) (F:Addr->Prop),vs=[.ref p]/\Tb CS CT H p f m pc M tc F /\ ∀ v H',Same H H'->StU H' v M->Q v H'
noncomputable def spTTouched(CS CT:Addr):Sp:=fun vs H Q _=>∃(p:Addr) (f m:Int) (pc:Nat) (M:MT) (tc:Int) (F:Addr->Prop),vs=[.ref p]/\Tb CS CT H p f m pc M tc F/\Q (.int tc) H
section
variable{CS CT:Addr}{H:Hp}{Q:VK}{E:XK}{p:Addr}{f m:Int}{pc:Nat}{M:MT}{tc:Int}{F:Addr->Prop}
theorem wRowsOf{R:MRows}(S:Sh CS H p f m R F)(q:∀ v H',Same H H'->RowsU H' v R->Q v H'):spRowsOf CS ([.ref p]++[]) H Q E:=⟨p,f,m,R,F,rfl,S,q⟩
theorem wTState(S:Tb CS CT H p f m pc M tc F)(q:∀ v H',Same H H'->StU H' v M->Q v H'):spTState CS CT (V.ref p::([]++[])) H Q E:=⟨p,f,m,pc,M,tc,F,rfl,S,q⟩
theorem wTTouched(S:Tb CS CT H p f m pc M tc F)(q:Q (.int tc) H):spTTouched CS CT (V.ref p::([]++[])) H Q E:=⟨p,f,m,pc,M,tc,F,rfl,S,q⟩
end
theorem _root_.L2.SqT.but{K:W.Frag}{H H':Hp}{x C dx b:Addr}{fs:List (Str×V)}{ys:List V}(hx:H x=some (.ins C dx fs))(k:∀ c o,c≠x->H c=some o->H' c=some o)(h:SqT K H b ys):SqT K H' b ys:=by
 rcases h with (z | ⟨o,z⟩) | z
 · exact .inl (.inl (k _ _ (ne_of z hx (by intro z;cases z)) z))
 · exact .inl (.inr ⟨o,k _ _ (ne_of z hx (by intro z;cases z)) z⟩)
 exact .inr z
theorem RowsT.but{K:W.Frag}{H H':Hp}{x C dx a:Addr}{fs:List (Str×V)}{R:MRows}(hx:H x=some (.ins C dx fs))(k:∀ c o,c≠x->H c=some o->H' c=some o)(h:RowsT K H a R):RowsT K H' a R:=by
 obtain⟨xs,hs,p⟩:=h;refine⟨xs,hs.but hx k,Paired.mapP p fun v r ⟨b,ys,e,hb,q⟩=>⟨b,ys,e,hb.but hx k,Paired.mapP q fun v p ⟨a,e,ha⟩=>⟨a,e,ha.but hx k⟩⟩⟩
theorem RowsU.rowsT{K:W.Frag}{H:Hp}{v:V}{R:MRows}(h:RowsU H v R):∃ a,v=.ref a/\RowsT K H a R:=by
 obtain⟨a,xs,e,ha,p⟩:=h;exact⟨a,e,xs,SqT.of ha,Paired.mapP p fun v r ⟨b,ys,e,hb,q⟩=>⟨b,ys,e,SqT.of hb,Paired.mapP q fun v p ⟨a,e,ha⟩=>⟨a,e,SqT.of ha⟩⟩⟩
noncomputable def ElT(K:W.Frag)(H:Hp)(v:V):Option MRows->Prop
 | none=>v=.non
 | some E=>∃ a,v=.ref a/\RowsT K H a E
theorem ElU.elT{K:W.Frag}{H:Hp}{v:V}{o:Option MRows}(h:ElU H v o):ElT K H v o:=by
 cases o with
 | none=>exact h
 | some E=>exact RowsU.rowsT h
noncomputable def spTInit(CS CT:Addr):Sp:=fun vs H Q _=>∃(x t dx:Addr) (f m:Int) (pc:Nat) (v:V) (M:MT),vs=[.ref x,.ref t,.int pc,v]/\H x=some (.ins CT dx [])/\H t=some (.tup [.int f,.int m])/\(0<=f/\f<=65535)/\TOk f m M/\cnt M<=5000/\(v=.non/\M=M0∨StU H v M) /\
 ∀ H' F,Tb CS CT H' x f m pc M 0 F->(∀ b,F b->b=x∨H b=none)->(∀ b o,b≠x->H b=some o->H' b=some o)->Q .non H'
section
variable{CS CT:Addr}{H:Hp}{Q:VK}{E:XK}{f m:Int}
theorem wTableG{Qf:Addr->Hp->Prop}{t:Addr}{n:Int}{v:V}{M:MT}(ht:H t=some (.tup [.int f,.int m]))(bf:0<=f/\f<=65535)(n0:0<=n)(T:TOk f m M)(hc:cnt M<=5000)(hv:v=.non/\M=M0∨StU H v M)
 (q:∀ p H' F,Tb CS CT H' p f m n.toNat M 0 F->(∀ b,F b->H b=none)->Same H H'->Qf p H') :
 ∀ x dx,H x=none->H dx=none->dx≠x->spTInit CS CT (V.ref x::([V.ref t,V.int n,v]++[])) (upd (upd H dx (.own x)) x (.ins CT dx [])) (fun v H2=>v=.non/\Qf x H2) E:=fun x dx hx hdx hne=>by
 have s0:Same H (upd (upd H dx (.own x)) x (.ins CT dx [])):=(Same.new hdx).trans (Same.new (by rw[upd_ne hne.symm];exact hx))
 refine⟨x,t,dx,f,m,n.toNat,v,M,by rw[Int.toNat_of_nonneg n0];rfl,upd_same,s0 _ _ ht,bf,T,hc,hv.imp id (fun u=>u.keep (KeepT.same s0)),fun H' F S g k=>⟨rfl,q x H' F S (fun b hb=>?_) fun b o e=>k b o (ne_of_none e hx) (s0 b o e)⟩⟩
 rcases g b hb with rfl | z
 · exact hx
 exact s0.free z
end
theorem putAll_row{f m:Int}{N:MRows}{j:Nat}(hj:j < N.length):∀(r p:MRow),ROk (p++r)->(∀ q∈r,plc f m N.length q.1=j)->putAll f m (N.set j p) r=N.set j (p++r)
 | [],p,_,_=>by rw[List.append_nil];rfl
 | q::r,p,ok,h=>by
   show putAll f m (sPut f m (N.set j p) q.1 q.2) r=_;have e1:plc f m (N.set j p).length q.1=j:=by rw[List.length_set];exact h q (List.mem_cons_self ..)
   have e2:sRow f m (N.set j p) q.1=p:=by
    unfold sRow;rw[e1,set_getD hj,if_pos rfl]
   have e3:rLook p q.1=none:=(rLook_none_iff q.1).mpr fun z=>by
    have ok':(p.map (·.1)++(q::r).map (·.1)).Nodup:=by rw[← List.map_append];exact ok
    exact(List.nodup_append.mp ok').2.2 _ z _ (List.mem_map.mpr ⟨q,List.mem_cons_self ..,rfl⟩) rfl
   have e4:sPut f m (N.set j p) q.1 q.2=N.set j (p++[q]):=by
    unfold sPut;rw[e1,e2,rPut_new e3,List.set_set]
   have e5:p++q::r=(p++[q])++r:=by simp
   rw[e4,e5];exact putAll_row hj r (p++[q]) (by rw[← e5];exact ok) fun x hx=>h x (List.mem_cons_of_mem _ hx)
theorem laid_go{f m:Int}{n:Nat}:∀(R A:MRows),A.length+R.length=n->(∀(i:Nat) r,R[i]?=some r->ROk r /\ ∀ p∈r,plc f m n p.1=A.length+i)->R.foldl (fun N r=>putAll f m N r) (A++List.replicate R.length [])=A++R
 | [],A,_,_=>rfl
 | r::R,A,hn,h=>by
   have h0:=h 0 r rfl;show R.foldl _ (putAll f m (A++List.replicate (R.length+1) []) r)=_;have hl:(A++List.replicate (R.length+1) ([]:MRow)).length=n:=by
    rw[List.length_append,List.length_replicate];rw[List.length_cons]at hn;exact hn
   have hj:A.length < (A++List.replicate (R.length+1) ([]:MRow)).length:=by
    rw[List.length_append,List.length_replicate];omega
   have es:∀ x:MRow,(A++List.replicate (R.length+1) ([]:MRow)).set A.length x=(A++[x])++List.replicate R.length []:=fun x=>by
    rw[List.set_append_right _ _ (Nat.le_refl _),Nat.sub_self,List.replicate_succ,List.set_cons_zero,List.append_assoc]
    rfl
   have e0:(A++List.replicate (R.length+1) ([]:MRow)).set A.length []=A++List.replicate (R.length+1) []:=by
    rw[es,List.replicate_succ,List.append_assoc]
    rfl
   have e1:=putAll_row (f:=f) (m:=m) hj r [] h0.1 (fun q hq=>by rw[hl];exact h0.2 q hq)
   rw[e0,es]at e1;rw[e1];have ih:=laid_go (f:=f) (m:=m) (n:=n) R (A++[r]) (by rw[List.length_append];rw[List.length_cons]at hn;show A.length+1+R.length=n;omega) fun i q e=>by
    have:=h (i+1) q e;refine⟨this.1,fun p hp=>?_⟩;rw[this.2 p hp,List.length_append];show _=A.length+1+i;omega
   rw[show([]++r:MRow)=r from rfl,ih,List.append_assoc]
   rfl
theorem laid_eq{f m:Int}{R:MRows}(P:POk f m R):laid f m R=R:=
 laid_go (n:=R.length) R [] (Nat.zero_add _) fun i r e=>⟨P.ok r (List.mem_of_getElem? e),fun p hp=>by rw[P.at_ i r p e hp];exact(Nat.zero_add _).symm⟩
noncomputable def shp(M:MT):Option Nat×Nat×Nat:=(M.el.map List.length,M.mv,M.nw.length)
theorem shp_put{f m:Int}{M:MT}{k v:Int}:shp (putAt f m M k v)=shp M:=by
 unfold putAt;cases e:M.el with
 | none=>unfold shp;simp only[e,sPut_len]
 | some E=>
   simp only[];split
   · unfold shp;simp only[e,sPut_len]
   unfold shp;simp only[e,Option.map,sPut_len]
theorem shp_cut{f m:Int}{M:MT}{k:Int}:shp (cutAt f m M k)=shp M:=by
 unfold cutAt;cases e:M.el with
 | none=>unfold shp;simp only[e,sCut_len]
 | some E=>
   simp only[];split
   · unfold shp;simp only[e,sCut_len]
   unfold shp;simp only[e,Option.map,sCut_len]
section
variable{CS CT:Addr}{H H':Hp}{p p2:Addr}{f m f2 m2:Int}{pc pc2:Nat}{M M2:MT}{tc tc2:Int}{F F' G:Addr->Prop}
theorem Tb.keepT(S:Tb CS CT H p f m pc M tc F)(k:Fr F H H'):KeepT H H':=fun a xs e=>k _ _ (S.notup e) e
theorem by_{l:Addr}{o:HO}(hl:H l=some o)(nF:¬ F l)(g:Gr H F F')(k:Fr F H H'):H' l=some o /\ ¬ F' l:=
 ⟨k _ _ nF hl,fun z=>(g l z).elim nF fun z=>by rw[hl]at z;cases z⟩
end
theorem wSeqC{D:Ends}{σ:L2.St}{H:Hp}{t u:TS}(h:∀ N:L2.St->Hp->Prop,N=u D->t { D with nx:=N } σ H):tSeq t u D σ H:=h _ rfl
theorem wGo{N N':L2.St->Hp->Prop}{σ:L2.St}{H:Hp}(e:N=N')(h:N' σ H):N σ H:=e ▸ h
@[elab_as_elim] theorem len0{α:Type}{P:List α -> Prop}(us:List α)(hl:us.length=0)(h:Unit->P []):P us:=by
  cases us with
  | nil=>exact h ()
  | cons a l=>cases hl
@[elab_as_elim] theorem len1{α:Type}{P:List α -> Prop}(us:List α)(hl:us.length=1)(h:∀ a,P [a]):P us:=by
  cases us with
  | nil=>cases hl
  | cons a l=>exact len0 (P:=fun l=>P (a::l)) l (Nat.succ.inj hl) fun _=>h a
@[elab_as_elim] theorem len2{α:Type}{P:List α -> Prop}(us:List α)(hl:us.length=2)(h:∀ a b,P [a,b]):P us:=by
  cases us with
  | nil=>cases hl
  | cons a l=>exact len1 (P:=fun l=>P (a::l)) l (Nat.succ.inj hl) fun b=>h a b
@[elab_as_elim] theorem len3{α:Type}{P:List α -> Prop}(us:List α)(hl:us.length=3)(h:∀ a b c,P [a,b,c]):P us:=by
  cases us with
  | nil=>cases hl
  | cons a l=>exact len2 (P:=fun l=>P (a::l)) l (Nat.succ.inj hl) fun b c=>h a b c
@[elab_as_elim] theorem len4{α:Type}{P:List α -> Prop}(us:List α)(hl:us.length=4)(h:∀ a b c d,P [a,b,c,d]):P us:=by
  cases us with
  | nil=>cases hl
  | cons a l=>exact len3 (P:=fun l=>P (a::l)) l (Nat.succ.inj hl) fun b c d=>h a b c d
@[elab_as_elim] theorem len5{α:Type}{P:List α -> Prop}(us:List α)(hl:us.length=5)(h:∀ a b c d e,P [a,b,c,d,e]):P us:=by
  cases us with
  | nil=>cases hl
  | cons a l=>exact len4 (P:=fun l=>P (a::l)) l (Nat.succ.inj hl) fun b c d e=>h a b c d e
theorem walkX{q:Program}{loose:List Str}{XP:(Str->Option Value)->Heap->Prop}{K:Params->W.Frag}{as:List Addr}{n t:Nat}{r:W.RowW}{d:DefRec}{kwd:List (Str×Expr)}{run:Value->List Value->Sem Value}
 (e:∀ P,as=(K P).map (·.1)) (h:W.WalkO q loose XP (W.InK K) r d kwd run):W.WalkX q loose XP (W.X.obsZ as) (W.X.valZ K n t) r d kwd run:=
 fun w s₀ s₁ mg mb G y a o pm cd doc dV kV ho hd hcd hD hmg hg args vals as' L hpre=>h w s₀ s₁ mg mb G (W.InK.keeps w _ _ (W.X.z_facts e y).2.1 (W.Laid.keeps L)) a o pm cd doc dV kV ho hd hcd hD hmg hg args vals as' hpre
noncomputable def Cut(M:L2.St->Hp->Prop)(G:(L2.St->Hp->Prop)->Prop):Prop:=∀ N,N=M->G N
theorem wCut{M:L2.St->Hp->Prop}{G:(L2.St->Hp->Prop)->Prop}(h:∀ N,N=M->G N):Cut M G:=h
theorem forListC{K:PySem.W.Frag}{a:Addr}{xs:List V}{g:TG}{tb:TS}{D:Ends}{σ:L2.St}{H:Hp}(Pv:Nat->L2.St->Hp->Prop)(h0:Pv 0 σ H)(hl:∀ i σ H,i<=xs.length->Pv i σ H->SqL K H a xs)
 (hs:∀ i x σ H,xs[i]?=some x->Pv i σ H->Cut (Pv (i+1)) fun N=>g x σ H fun σ2 H2=>tb { D with nx:=N,ct:=N,bk:=D.nx } σ2 H2) (hd:∀ σ H,Pv xs.length σ H->D.nx σ H) :
 ∃ W:Nat->Nat->L2.St->Hp->Prop,(∃ m,W 0 m σ H) /\ ∀ i m σ H,W i m σ H ->
   ((Itl K a).stop i H/\D.nx σ H)∨((Itl K a).go i H /\ ∃ N:L2.St->Hp->Prop,(∀ σ' H',N σ' H' -> ∃ m',m' < m/\W (i+1) m' σ' H') /\ ∀ x H',(Itl K a).yld i H x H'->g x σ H' fun σ2 H2=>tb { D with nx:=N,ct:=N,bk:=D.nx } σ2 H2):=
 for_list Pv h0 hl (fun i x σ H e p=>hs i x σ H e p _ rfl) hd
theorem forRangeC{lo:Int}{n:Nat}{g:TG}{tb:TS}{D:Ends}{σ:L2.St}{H:Hp}(Pv:Nat->L2.St->Hp->Prop)(h0:Pv 0 σ H)
 (hs:∀ i σ H,i < n->Pv i σ H->Cut (Pv (i+1)) fun N=>g (.int (lo+i)) σ H fun σ2 H2=>tb { D with nx:=N,ct:=N,bk:=D.nx } σ2 H2) (hd:∀ σ H,Pv n σ H->D.nx σ H) :
 ∃ W:Nat->Nat->L2.St->Hp->Prop,(∃ m,W 0 m σ H) /\ ∀ i m σ H,W i m σ H ->
   ((Itr lo n).stop i H/\D.nx σ H)∨((Itr lo n).go i H /\ ∃ N:L2.St->Hp->Prop,(∀ σ' H',N σ' H' -> ∃ m',m' < m/\W (i+1) m' σ' H') /\ ∀ x H',(Itr lo n).yld i H x H'->g x σ H' fun σ2 H2=>tb { D with nx:=N,ct:=N,bk:=D.nx } σ2 H2):=
 for_range Pv h0 (fun i σ H e p=>hs i σ H e p _ rfl) hd
section
variable{K:W.Frag}{H:Hp}{p C dx:Addr}{fs:List (Str×V)}{v:V}{f:Str}
theorem iFld{R:Addr->Addr->V->Prop}(hp:H p=some (.ins C dx fs))(hc:Cls K C)(hn:NoAttr K C f)(hl:fs.lookup f=some v)(h:R p C v):∃ a C dx fs v,V.ref p=.ref a/\H a=some (.ins C dx fs)/\Cls K C/\NoAttr K C f/\fs.lookup f=some v/\R a C v:=⟨p,C,dx,fs,v,rfl,hp,hc,hn,hl,h⟩
theorem iSFld{R:Addr->Addr->Addr->List (Str×V)->Prop}(hp:H p=some (.ins C dx fs))(hc:Cls K C)(hn:NoAttr K C f)(hl:fs.length < 1000)(h:R p C dx fs):∃ a C dx fs,V.ref p=.ref a/\H a=some (.ins C dx fs)/\Cls K C/\NoAttr K C f/\fs.length < 1000/\R a C dx fs:=⟨p,C,dx,fs,rfl,hp,hc,hn,hl,h⟩
theorem iIsi{x:V}{T:String}{t:Value}{b:Bool}{R:Bool->Prop}(ty:TyOf K H x t)(e:W.kitOne K t (.type T)=some b)(h:R b):∃ x' T' t' b',[x,V.ty T]=[x',V.ty T']/\TyOf K H x' t'/\W.kitOne K t' (.type T')=some b'/\R b':=⟨x,T,t,b,rfl,ty,e,h⟩
theorem iLen{l:Addr}{ys:List V}{R:List V->Prop}(h1:SqL K H l ys∨SqT K H l ys)(h:R ys):∃ p ys,[V.ref l]=[V.ref p]/\(SqL K H p ys∨SqT K H p ys)/\R ys:=⟨l,ys,rfl,h1,h⟩
end
section
variable{CS CT:Addr}{H:Hp}{Q:VK}{E:XK}{p:Addr}{k f m:Int}{pc:Nat}{M:MT}{tc:Int}{F:Addr->Prop}
theorem wTGo(S:Tb CS CT H p f m pc M tc F)(T:TOk f m M)(hp:pc<=1000)(hc:cnt M<=4000∨M.el=none)(q:∀ H' F',Tb CS CT H' p f m pc (goOn f m pc M) (tch f m pc M k) F'->Gr H F F'->Fr F H H'->Q .non H'):spTGo CS CT (V.ref p::([V.int k]++[])) H Q E:=⟨p,k,f,m,pc,M,tc,F,rfl,S,T,hp,hc,q⟩
theorem wTWith{t n:Addr}{v:V}{FN FE:Addr->Prop}(X:TbX CS CT H p f m pc M tc t n v FN FE)(q1:∀ E,M.el=some E->sLook f m E k≠none->Q v H)(q2:onE f m M k=none->Q (.ref n) H):spTWith CS CT (V.ref p::([V.int k]++[])) H Q E:=⟨p,k,f,m,pc,M,tc,t,n,v,FN,FE,rfl,X,q1,q2⟩
theorem wTBegin(S:Tb CS CT H p f m pc M tc F)(hs:isSize M.nw.length)(q:∀ H' F',Tb CS CT H' p f m pc (beg M) tc F'->Gr H F F'->Fr F H H'->Q .non H'):spTBegin CS CT (V.ref p::([]++[])) H Q E:=⟨p,f,m,pc,M,tc,F,rfl,S,hs,q⟩
theorem wTWant(S:Tb CS CT H p f m pc M tc F)(q:Q (.int (want M.nw:Nat)) H):spTWant CS CT (V.ref p::([]++[])) H Q E:=⟨p,f,m,pc,M,tc,F,rfl,S,q⟩
theorem wTDue(S:Tb CS CT H p f m pc M tc F)(T:TOk f m M)(hp:pc<=1000)(q:∀ l H',Same H H'->H l=none->H' l=some (.lst ((seqI M.mv (due pc M)).map V.int))->Q (.ref l) H'):spTDue CS CT (V.ref p::([]++[])) H Q E:=⟨p,f,m,pc,M,tc,F,rfl,S,T,hp,q⟩
theorem wTEnd(S:Tb CS CT H p f m pc M tc F)(q:∀ H' F',Tb CS CT H' p f m pc (endM M) tc F'->Gr H F F'->Fr F H H'->Q .non H'):spTEnd CS CT (V.ref p::([]++[])) H Q E:=⟨p,f,m,pc,M,tc,F,rfl,S,q⟩
theorem wTStands(S:Tb CS CT H p f m pc M tc F)(q:Q (.bl (standsE f m M k)) H):spTStands CS CT (V.ref p::([V.int k]++[])) H Q E:=⟨p,k,f,m,pc,M,tc,F,rfl,S,q⟩
theorem wSRowW{R:MRows}{t L:Addr}{ds:List Addr}(X:ShX CS H p f m R t L ds)(q:∀ d,ds[plc f m R.length k]?=some d->Q (.ref d) H):spSRowW CS (V.ref p::([V.int k]++[])) H Q E:=⟨p,k,f,m,R,t,L,ds,rfl,X,q⟩
end
theorem fs{N P:List Str}{sc:Scope}(a:sc.kind=.function:=by rfl)(b:sc.isCoroutine=false:=by rfl)(c:sc.isGenerator=false:=by rfl)(d:N.Nodup:=by decide +kernel)(e:N.take P.length=P:=by rfl)(f:∀ x∈P,sc.names.lookup x=some .local∨sc.names.lookup x=some .cell:=by decide +kernel)(h:∀ y∈sc.names,y.2 ≠ .free:=by decide +kernel):FnScope N P sc:=⟨a,b,c,d,e,f,h⟩
theorem bd1{K:W.Frag}{x qual p0:Str}{st:Stmt}{f:Addr}{fd:FuncData}(F:Fun K x qual st f fd)(h:∀(kV doc pm:Value) (an:Option Addr) (cdv ct:Value) (a0:Value),bindArgs (W.fnOf x qual (defArgs st) (defBody st) (defScope st) .none kV doc pm an cdv ct) ⟨[a0],[]⟩=pure ([(p0,a0)]):=by intros;rfl):Binds K fd [p0] []:=F.binds fun _ _ _ _ _ _ us hl=>len1 us hl fun a0=>h _ _ _ _ _ _ a0
theorem bd2{K:W.Frag}{x qual p0 p1:Str}{st:Stmt}{f:Addr}{fd:FuncData}(F:Fun K x qual st f fd)(h:∀(kV doc pm:Value) (an:Option Addr) (cdv ct:Value) (a0 a1:Value),bindArgs (W.fnOf x qual (defArgs st) (defBody st) (defScope st) .none kV doc pm an cdv ct) ⟨[a0,a1],[]⟩=pure ([(p0,a0),(p1,a1)]):=by intros;rfl):Binds K fd [p0,p1] []:=F.binds fun _ _ _ _ _ _ us hl=>len2 us hl fun a0 a1=>h _ _ _ _ _ _ a0 a1
theorem bd3{K:W.Frag}{x qual p0 p1 p2:Str}{st:Stmt}{f:Addr}{fd:FuncData}(F:Fun K x qual st f fd)(h:∀(kV doc pm:Value) (an:Option Addr) (cdv ct:Value) (a0 a1 a2:Value),bindArgs (W.fnOf x qual (defArgs st) (defBody st) (defScope st) .none kV doc pm an cdv ct) ⟨[a0,a1,a2],[]⟩=pure ([(p0,a0),(p1,a1),(p2,a2)]):=by intros;rfl):Binds K fd [p0,p1,p2] []:=F.binds fun _ _ _ _ _ _ us hl=>len3 us hl fun a0 a1 a2=>h _ _ _ _ _ _ a0 a1 a2
theorem bd4{K:W.Frag}{x qual p0 p1 p2 p3:Str}{st:Stmt}{f:Addr}{fd:FuncData}(F:Fun K x qual st f fd)(h:∀(kV doc pm:Value) (an:Option Addr) (cdv ct:Value) (a0 a1 a2 a3:Value),bindArgs (W.fnOf x qual (defArgs st) (defBody st) (defScope st) .none kV doc pm an cdv ct) ⟨[a0,a1,a2,a3],[]⟩=pure ([(p0,a0),(p1,a1),(p2,a2),(p3,a3)]):=by intros;rfl):Binds K fd [p0,p1,p2,p3] []:=F.binds fun _ _ _ _ _ _ us hl=>len4 us hl fun a0 a1 a2 a3=>h _ _ _ _ _ _ a0 a1 a2 a3
theorem b_enumerate:bootBuiltins "enumerate"=some (.type "enumerate"):=by decide +kernel
section
variable{X:Cx}{elts:List Expr}{k:Nat}{tp:Pos}
end
namespace B
end B
theorem walks_list{prog:Program}{w:World}{A:Around}(hh:A.handled=none)(I l:Addr)(hne:l≠I)(items:Array Value):Walks prog w A I [I,l] [I] items.size (fun i v=>items[i]?=some v) (fun i h=>h.IsListIter I l i/\h.IsList l items) where
 sub:=by simp
 frame:=fun i h h' st k=>⟨st.1.at fun o e=>k I (by simp) o e,st.2.at fun o e=>k l (by simp) o e⟩
 item:=fun i s Q E hi st hQ=>by
  refine wpAny_pyNext_list_item st.1 st.2 (x:=items[i]) (by simp[hi]) fun h' a sb=>?_
  exact hQ items[i] h' s.toks (by simp[hi]) ⟨a,st.2.extBut sb.extBut hne⟩ fun b o hb e=>sb.extBut b o (fun z=>hb (by simp[z])) e
 done:=fun s Q E st hQ=>by
  refine wpAny_pyNext_list_end hh st.1 st.2 (by simp) fun h' kk=>?_
  exact hQ h' s.toks fun b o hb e=>kk b o (fun z=>hb (by simp[z])) e
 self:=fun i s Q E st hQ=>wpAny_pyIter_listiter st.1 hQ
theorem all_getD:∀ bs:List Bool,(List.range bs.length).all (fun i=>bs.getD i false)=bs.all id
 | []=>rfl
 | b::bs=>by
   rw[List.length_cons,List.range_succ_eq_map,List.all_cons,List.all_map,List.all_cons]
   congr 1
   exact all_getD bs
theorem b_all:bootBuiltins "all"=some (.builtin "all"):=by decide +kernel
theorem call_allL{X:Cx}:CallR X (.builtin "all") (fun xs H Q=>∃ l bs,xs=[.ref l]/\SqL X.K H l (List.map V.bl bs)/\X.calm=true/\Q (.bl (List.all bs id)) H):=by
 intro pins s σ H xs us Q I r h;obtain⟨l,bs,rfl,hl,hc,q⟩:=h;obtain⟨u,rfl,rx⟩:=vals1 r;cases rx;obtain⟨its,rv,pl,_⟩:=I.list hl;have le:=rv.length;rw[List.length_map]at le;have hv:∀(i:Nat) v,its[i]?=some v->v=.bool (bs.getD i false):=fun i v e=>by
  have hi:i < its.length:=(List.getElem?_eq_some_iff.mp e).1;obtain⟨u,hu,ru⟩:=rv.get (i:=i) (x:=V.bl bs[i]) (by simp[le ▸ hi])
  rw[e]at hu;cases hu;rw[show v=Value.bool bs[i]from ru,List.getD_eq_getElem?_getD,List.getElem?_eq_getElem (by omega)]
  rfl
 have lt:l < s.heap.objs.size:=by
  obtain⟨o,e,_⟩:=pl.isList;exact Heap.lt_size e
 have W:=walks_list (prog:=X.prog) (w:=X.w) (A:=X.A.in1) (show X.A.in1.handled=none from I.ok.hd hc) s.heap.objs.size l (Nat.ne_of_lt lt) its.toArray;refine call_all_walk (wpAny_pyIter_list pl.isList ⟨_,_,_,_,_,_,fun i=>bs.getD i false,rfl,W,And.intro ?_ ?_,?_,fun h' tk hk=>?_⟩)
 · exact⟨_,Heap.get?_push_size _ rfl,rfl,rfl⟩
 · exact pl.isList.push _
 · intro i v s' Q' E' hp hq
   rw[hv i v (by simpa using hp)]
   exact wpAny_truthy_bool hq
 have ea:(List.range its.toArray.size).all (fun i=>bs.getD i false)=bs.all id:=by
  rw[List.size_toArray,← le];exact all_getD bs
 rw[ea];refine⟨.bl (bs.all id),H,I.kept (t':=tk) (fun b o e=>hk b o (fun z=>?_) (Heap.get?_push_of_some _ e)),rfl,q⟩;rw[List.mem_singleton]at z;subst z;exact absurd (Heap.lt_size e) (Nat.lt_irrefl _)
theorem b_dict:bootBuiltins "dict"=some (.type "dict"):=by decide +kernel
theorem b_sorted:bootBuiltins "sorted"=some (.builtin "sorted"):=by decide +kernel
section
variable{prog:Program}{w:World}{A:Around}{E:Value->Shared->Prop}{s:Shared}{T:String}{r d:Addr}{n:Nat}{P:Nat->Value->Prop}{OK:Heap->Prop}
end
section
variable{X:Cx}{e st:Expr}{te ts:TE}{pos p2:Pos}
end
section
variable{K:W.Frag}{a D:Addr}{xs:List V}{σ0:L2.St}{H1:Hp}{gt:TG}{tt:TT}{te:TE}
theorem comp_tup{Qf:Hp->Prop}(Pv:Nat->L2.St->Hp->Prop)(h0:Pv 0 σ0 H1)(hl:∀ i σ H,i<=xs.length->Pv i σ H->SqT K H a xs)
 (step:∀ i x σ' H',xs[i]?=some x->i < xs.length->Pv i σ' H'->tt (σ'.set 0 (some x)) H' fun ok H3=>if ok=true then te (σ'.set 0 (some x)) H3 (fun y H4=>CN Pv xs.length i D (σ'.set 0 (some x)) y H4)else CO Pv xs.length i (σ'.set 0 (some x)) H3)
 (fin:∀ σ H,Pv xs.length σ H->Qf H) :
 ∃ W:Nat->Nat->L2.St->Hp->Prop,(∃ m,W 0 m σ0 H1) /\ ∀ i m σ' H',W i m σ' H'->((Itt K a).stop i H'/\Qf H')∨((Itt K a).go i H' /\ ∀ x H2,(Itt K a).yld i H' x H2->tt (σ'.set 0 (some x)) H2 fun ok H3=>
   if ok=true then te (σ'.set 0 (some x)) H3 fun y H4=>∃ ys,H4 D=some (.lst ys)/\ys.length < sizeLine /\ ∃ m',m' < m/\W (i+1) m' (σ'.set 0 (some x)) (upd H4 D (.lst (ys++[y])))
   else ∃ m',m' < m/\W (i+1) m' (σ'.set 0 (some x)) H3):=by
 refine⟨fun i m σ H=>m=xs.length - i/\i<=xs.length/\Pv i σ H,⟨xs.length,by omega,Nat.zero_le _,h0⟩,?_⟩
 rintro i m σ' H' ⟨rfl,hi,p⟩;have q:=hl i σ' H' hi p;by_cases hlt:i < xs.length
 · refine .inr ⟨⟨xs,xs[i],q,by simp[hlt]⟩,fun x H2 y=>?_⟩
   obtain⟨rfl,y⟩:=y;exact step i x σ' _ (y xs q) hlt p
 have e:i=xs.length:=by omega
 subst e;exact .inl ⟨⟨xs,q,Nat.le_refl _⟩,fin _ _ p⟩
theorem comp_tupU{Qf:Hp->Prop}(Pv:Nat->L2.St->Hp->Prop)(h0:Pv 0 σ0 H1)(hl:∀ i σ H,i<=xs.length->Pv i σ H->SqT K H a xs)
 (step:∀ i x σ' H',xs[i]?=some x->i < xs.length->Pv i σ' H'->te (σ'.set 0 (some x)) H' (fun y H4=>CN Pv xs.length i D (σ'.set 0 (some x)) y H4))
 (fin:∀ σ H,Pv xs.length σ H->Qf H) :
 ∃ W:Nat->Nat->L2.St->Hp->Prop,(∃ m,W 0 m σ0 H1) /\ ∀ i m σ' H',W i m σ' H'->((Itt K a).stop i H'/\Qf H')∨((Itt K a).go i H' /\ ∀ x H2,(Itt K a).yld i H' x H2 ->
   if true=true then te (σ'.set 0 (some x)) H2 fun y H4=>∃ ys,H4 D=some (.lst ys)/\ys.length < sizeLine /\ ∃ m',m' < m/\W (i+1) m' (σ'.set 0 (some x)) (upd H4 D (.lst (ys++[y])))
   else ∃ m',m' < m/\W (i+1) m' (σ'.set 0 (some x)) H2):=
 comp_tup (tt:=fun _ H Q=>Q true H) Pv h0 hl (fun i x σ' H' e hi p=>iteT (step i x σ' H' e hi p)) fin
end
section
variable{X:Cx}
end
noncomputable def TK(H H':Hp):Prop:=∀ a xs,H a=some (.tup xs)->H' a=some (.tup xs)
theorem Same.tk{H H':Hp}(s:Same H H'):TK H H':=fun a xs e=>s a _ e
theorem paired_len{α β:Type}{F:α -> β -> Prop}:∀{xs:List α}{ys:List β},Paired F xs ys->xs.length=ys.length
 | _,_,.nil=>rfl
 | _,_,.cons _ t=>by rw[List.length_cons,List.length_cons,paired_len t]
theorem paired_get{α β:Type}{F:α -> β -> Prop}:∀{xs:List α}{ys:List β}{i:Nat}{v:α},Paired F xs ys->xs[i]?=some v -> ∃ d,ys[i]?=some d/\F v d
 | _,_,_,_,.nil,h=>by simp at h
 | _,_,0,v,.cons (b:=b) hd _,g=>by
   simp at g;subst g;exact⟨b,rfl,hd⟩
 | _,_,i+1,v,.cons _ t,g=>by
   obtain⟨d,e,h⟩:=paired_get (i:=i) t (by simpa using g)
   exact⟨d,by simpa using e,h⟩
theorem paired_take{α β:Type}{F:α -> β -> Prop}:∀{xs:List α}{ys:List β} (n:Nat),Paired F xs ys->Paired F (xs.take n) (ys.take n)
 | _,_,_,.nil=>by rw[List.take_nil,List.take_nil];exact .nil
 | _,_,0,.cons _ _=>.nil
 | _,_,n+1,.cons h t=>.cons h (paired_take n t)
theorem paired_drop{α β:Type}{F:α -> β -> Prop}:∀{xs:List α}{ys:List β} (n:Nat),Paired F xs ys->Paired F (xs.drop n) (ys.drop n)
 | _,_,_,.nil=>by rw[List.drop_nil,List.drop_nil];exact .nil
 | _,_,0,.cons h t=>.cons h t
 | _,_,n+1,.cons _ t=>paired_drop n t
theorem paired_append{α β:Type}{F:α -> β -> Prop}{xs2:List α}{ys2:List β}(g:Paired F xs2 ys2):∀{xs:List α}{ys:List β},Paired F xs ys->Paired F (xs++xs2) (ys++ys2)
 | _,_,.nil=>g
 | _,_,.cons h t=>.cons h (paired_append g t)
noncomputable def oN:Option Nat->V
 | none=>.non
 | some n=>.int n
theorem oV_scal(a b:Option Int):scal (oV a) (oV b)=true:=by cases a <;> cases b <;> rfl
theorem dd_len:∀(ns acc:List Int),(ns.foldl step_dedup acc).length<=acc.length+ns.length
 | [],acc=>Nat.le_refl _
 | n::ns,acc=>by
   have:=dd_len ns (step_dedup acc n);rw[List.foldl_cons,List.length_cons];have:(step_dedup acc n).length<=acc.length+1:=by unfold step_dedup;split <;> simp
   omega
theorem range_getD(ns:List Int):(List.range ns.length).map (fun i=>ns.getD i 0)=ns:=by
 apply List.ext_getElem?
 intro i;rw[List.getElem?_map];by_cases h:i < ns.length
 · simp[h]
 simp[h]
theorem nDist_le(ns:List Int):nDist ns<=ns.length:=by
 unfold nDist firstMet;rw[range_getD];have:=dd_len ns []
 simpa using this
end SW
namespace SW
open PySem PySem.Spec PyProof.Rows L2
namespace B
theorem dget{X:Cx}{o i:Expr}{td ty:TE}{pos:Pos}(hu:X.A.units+1 < cLine)(ho:Bx (PE X o td))(hi:Bx (PE X i ty))(hs:NoSl i:=by exact fun _ _=>rfl):Bx (PE X (.Subscript o i pos) (tDGet td ty)):=⟨pe_dget hu ho.out hi.out hs⟩
end B
theorem wDGet{σ:L2.St}{H:Hp}{Q:VK}{td ty:TE}(h:td σ H fun x H1=>ty σ H1 fun y H2=>∃ a v,x=.ref a/\DGet H2 a y (some v)/\Q v H2):tDGet td ty σ H Q:=h
section
variable{H:Hp}{Q:VK}{E:XK}{p:Addr}
end
section
variable{C:Addr}{H:Hp}{Q:VK}{E:XK}{p wa oa:Addr}{L:LS}
end
section
variable{C:Addr}{H H':Hp}{p:Addr}{L:LS}{wa oa:Addr}
end
end SW
namespace SW
open PySem PySem.Spec PyProof.Rows L2
section
variable{X:Cx}{scope:Scope}{cl:List (Str×Addr)}{os:List Str}{js:List Nat}{N':List Str}{elt tgt iter:Expr}{ifs:List Expr}{pos:Pos}{wi:TI}{gt:TG}{tt:TT}{te:TE}
end
namespace B
end B
section
variable{X:Cx}{pins:List (Addr×Obj)}{σ:L2.St}{H:Hp}{s:Shared}
end
section
variable{a D:Addr}{o:Obj}{kvs:List (Key×V)}{σ0:L2.St}{H1:Hp}{tt:TT}{te:TE}
end
section
variable{K:W.Frag}{H:Hp}
end
theorem pairs_lay:∀ r:MRow,PyData.canLayAll0 (r.map fun p=>PyData.tuple [.int p.1,.int p.2])=true
 | []=>rfl
 | _::r=>pairs_lay r
theorem pairs_deep:∀ r:MRow,PyData.depthAll (r.map fun p=>PyData.tuple [.int p.1,.int p.2])<=1
 | []=>by decide
 | _::r=>by
   have:=pairs_deep r;simp only[List.map_cons,PyData.depthAll,PyData.depth];omega
namespace B
theorem tdnotin{X:Cx}{a d:Expr}{ty td:TE}{pos:Pos}(hu:X.A.units+1 < cLine)(hk:Bx (PE X a ty))(hd:Bx (PE X d td))(h1:behindInMarks .NotIn d=false:=by first | rfl | with_unfolding_all rfl):Bx (PT X (.Compare a [.NotIn] [d] pos) (tB (tDNotIn ty td))):=⟨pt_cmp (pc_dnotin hu hk.out hd.out) h1⟩
end B
theorem wDNotIn{σ:L2.St}{H:Hp}{Q:VK}{td ty:TE}(h:ty σ H fun y H1=>td σ H1 fun x H2=>∃ a o,x=.ref a/\DGet H2 a y o/\Q (.bl (!o.isSome)) H2):tDNotIn ty td σ H Q:=h
namespace B
end B
end SW
namespace SW
open PySem PySem.Spec PyProof.Rows L2
noncomputable def tOrA(K:W.Frag)(ta tb:TE):TE:=fun σ H Q=>ta σ H fun x H1=>(x=.non/\tb σ H1 Q) ∨ ∃ a xs,x=.ref a/\SqT K H1 a xs/\if xs.isEmpty=true then tb σ H1 Q else Q x H1
theorem pe_orA{X:Cx}{a b:Expr}{rest:List Expr}{pos:Pos}{ta tb:TE}(ha:PE X a ta)(hb:PE X (.BoolOp .Or (b::rest) pos) tb):PE X (.BoolOp .Or (a::b::rest) pos) (tOrA X.K ta tb):=by
 intro pins s σ H Q I h;refine BoolOp_or (thn (ha pins s σ H _ I h) fun v s1 zz=>?_);obtain⟨x,H1,I1,r1,q1⟩:=zz;rcases q1 with ⟨e,q1⟩ | ⟨a,xs,e,hx,q1⟩
 · subst e
   cases r1;exact truthy_none (hb pins s1 σ H1 Q I1 q1)
 subst e;cases r1;obtain⟨its,r,ht,hz⟩:=I1.tuple hx;have hl:=r.length;refine truthy_tuple (items:=its.toArray) ht (by rw[List.size_toArray,← hl];exact Int.lt_of_le_of_lt (Int.ofNat_le.mpr hz) (by decide)) ?_
 have I2:Inv X pins σ H1 { s1 with toks:=s1.toks+1+1 }:=I1.kept (t':=s1.toks+1+1) fun _ _ e=>e;cases xs with
 | nil=>
   cases r;exact hb pins _ σ H1 Q I2 q1
 | cons y ys=>
   cases r with
   | cons r0 rs=>exact⟨.ref a,H1,I2,rfl,q1⟩
theorem B.orA{X:Cx}{a b:Expr}{rest:List Expr}{pos:Pos}{ta tb:TE}(ha:Bx (PE X a ta))(hb:Bx (PE X (.BoolOp .Or (b::rest) pos) tb)):Bx (PE X (.BoolOp .Or (a::b::rest) pos) (tOrA X.K ta tb)):=⟨pe_orA ha.out hb.out⟩
theorem wOrA{K:W.Frag}{ta tb:TE}{σ:L2.St}{H:Hp}{Q:VK}(h:ta σ H fun x H1=>(x=.non/\tb σ H1 Q) ∨ ∃ a xs,x=.ref a/\SqT K H1 a xs/\if xs.isEmpty=true then tb σ H1 Q else Q x H1):tOrA K ta tb σ H Q:=h
theorem meets_enumerate_newT(l:Addr)(items:Array Value) :
 Meets (Builtin.«enumerate.__new__» ⟨[.type "enumerate",.ref l],[]⟩) (fun _ R s=>s.heap.IsTuple l items /\
  R (.ok (.ret (.ref (s.heap.push { cls:=.type "tuple_iterator",data:=.fields #[.ref l,.int 0 0] }).objs.size)))
    { s with heap:=(s.heap.push { cls:=.type "tuple_iterator",data:=.fields #[.ref l,.int 0 0] }).push { cls:=.type "enumerate",data:=.fields #[.none,.bool false,.ref s.heap.objs.size,rawInt 0,.none,.none] } }):=
 .of_wp fun prog w A R s h=>by
  obtain⟨hp,g,d,tk,os⟩:=s;obtain⟨hl,h⟩:=h;have hsub:=sub_enumerate;have hL:Heap.IsTuple (Shared.heap ⟨hp,g,d,tk,os⟩) l items:=hl;obtain⟨o,ho,hc,n,hd⟩:=id hl;obtain⟨c,dd,dat,sl⟩:=o;simp only at hc hd;subst hc hd
  wp_walk using AutoSeq1.wpAny_loadPart' ho
  refine wpAny_stack_any fun st=>wpAny_pure ?_;split
  · rename_i c _ _ _ _ _
    cases (c == Value.type "enumerate")
    · wp_walk using AutoSeq1.wpAny_loadPart' ho,wpAny_pyIter_tuple hL
      exact⟨_,rfl,h⟩
    wp_walk using AutoSeq1.wpAny_loadPart' ho,wpAny_pyIter_tuple hL
    exact⟨_,rfl,h⟩
  wp_walk using AutoSeq1.wpAny_loadPart' ho,wpAny_pyIter_tuple hL
  exact⟨_,rfl,h⟩
theorem call_enumerate_tuple{prog:Program}{w:World}{A:Around}{E:Value->Shared->Prop}{s:Shared}{l:Addr}{items:Array Value}{Q:Value->Shared->Prop}(hL:s.heap.IsTuple l items)
 (h:∀ h',IsEnum h' (s.heap.objs.size+1) s.heap.objs.size 0 .none->h'.IsTupleIter s.heap.objs.size l 0->h'.objs.size=s.heap.objs.size+2 ->
  (∀ b o,s.heap.get? b=some o->h'.get? b=some o)->Q (.ref (s.heap.objs.size+1)) { s with heap:=h' }) :
 wpAny (model prog w) A (call (.type "enumerate") [.ref l]) Q E s:=by
 refine callType_new F.called_enumerate (by decide) (F.typeCall_enumerate_1 _) (F.newCall_enumerate_1 _) (fun obj=>F.args_object_init_2 obj _) F.entry_enumerate_new
  (meets_enumerate_newT l items) ⟨hL,?_⟩
 have hz:(s.heap.push { cls:=.type "tuple_iterator",data:=.fields #[.ref l,.int 0 0] }).objs.size=s.heap.objs.size+1:=Heap.size_push ..;show _/\_;rw[hz];have he:IsEnum ((s.heap.push { cls:=.type "tuple_iterator",data:=.fields #[.ref l,.int 0 0] }).push
  { cls:=.type "enumerate",data:=.fields #[.none,.bool false,.ref s.heap.objs.size,rawInt 0,.none,.none] }) (s.heap.objs.size+1) s.heap.objs.size 0 .none:=by
  have:=Heap.get?_push_size (s.heap.push { cls:=.type "tuple_iterator",data:=.fields #[.ref l,.int 0 0] })
   (o:={ cls:=.type "enumerate",data:=.fields #[.none,.bool false,.ref s.heap.objs.size,rawInt 0,.none,.none] }) rfl
  rw[hz]at this;exact this
 refine⟨⟨_,he,rfl⟩,h _ he ⟨_,Heap.get?_push_of_some _ (Heap.get?_push_size _ rfl),rfl,rfl⟩ (by rw[Heap.size_push,hz]) fun b o x=>Heap.get?_push_of_some _ (Heap.get?_push_of_some _ x)⟩
theorem draws_tuple{prog:Program}{w:World}{A:Around}(hh:A.handled=none)(it l:Addr)(hne:l≠it)(items:Array Value) :
 Draws prog w A it [it,l] items.size (fun i v=>items[i]?=some v) (fun i h=>h.IsTupleIter it l i/\h.IsTuple l items) where
 live:=fun _ _ st=>let⟨o,ho,_⟩:=st.1;⟨o,ho⟩
 frame:=fun _ _ _ st hk=>⟨st.1.at fun o e=>hk it (by simp) o e,st.2.at fun o e=>hk l (by simp) o e⟩
 item:=fun i s Q E hi st hQ=>by
  refine tzItem st.1 st.2 (x:=items[i]) (by simp[hi]) fun h' hit' hs'=>?_
  exact hQ _ h' s.toks (by simp[hi]) ⟨hit',st.2.extBut hs'.extBut hne⟩ hs'
 done:=fun s Q E st hE=>tzFin hh st.1 st.2 (by simp) hE
noncomputable def Iteu(K:W.Frag)(l:Addr):It:=
 ⟨fun i H=>∃ xs x,SqT K H l xs/\xs[i]?=some x,
  fun i H v H'=>∃ T x,H T=none/\v=.ref T/\(∀ xs,SqT K H l xs->xs[i]?=some x)/\H'=upd H T (.tup [.int i,x]),
  fun i H=>∃ xs,SqT K H l xs/\xs.length=i⟩
theorem turn_enumT{P:Program}{w:World}{K:W.Frag}{elts:List Expr}{k:Nat}{pos:Pos}(l e it:Addr)(hne:e≠it)(hle:l≠e)(hli:l≠it):Turn P w K (.Tuple elts k pos) (Iteu K l) [e,it] e
 (fun i h=>(∃ old,IsEnum h e it ((i:Nat):Int) old)/\h.IsTupleIter it l i) where
 mem:=by simp
 obj:=fun i h st b hb=>by
  obtain⟨⟨old,s1⟩,⟨o1,e1,c1,d1⟩⟩:=st;simp only[List.mem_cons,List.not_mem_nil,or_false]at hb;rcases hb with rfl | rfl
  · exact⟨_,s1,fun v q=>by cases q⟩
  exact⟨_,e1,fun v q=>by rw[d1]at q;cases q⟩
 keep:=fun i h h' st kk=>by
  obtain⟨⟨old,s1⟩,s4⟩:=st;exact⟨⟨old,kk e (by simp) _ s1⟩,s4.at fun o g=>kk it (by simp) o g⟩
 item:=by
  intro X hP hw hK hc i pins s σ H E I hf st hg;subst hP hw hK;obtain⟨xs,x,hl,hx⟩:=hg;obtain⟨⟨old,s1⟩,s4⟩:=st;obtain⟨its1,rv1,p1,hz1⟩:=I.tuple hl;obtain⟨u1,hu1,ru1⟩:=rv1.get hx;have hlt:i < its1.toArray.size:=by
   rw[List.size_toArray];exact(List.getElem?_eq_some_iff.mp hu1).1
  refine wpAny_pyNext_enum_itemD (draws_tuple (prog:=X.prog) (w:=X.w) (A:=X.A.in1) (I.ok.hd hc) it l hli its1.toArray) s1 ⟨s4,p1⟩ hlt hne (by simp[hne,hle.symm]) fun x' h1 tk hPx a1 a4 a5 a6 kk=>?_
  have ex:x'=u1:=by
   have:its1.toArray[i]?=some x':=hPx;rw[← Array.getElem?_toList]at this;rw[show its1.toArray.toList[i]?=some u1 from hu1]at this;exact(Option.some.inj this).symm
  subst ex;refine⟨_,rfl,wpAny_letOwnedTupleGo_enum a1 fun h2 b1 sb=>?_⟩;have ezT:s.heap.objs.size≠e:=Nat.ne_of_gt (Heap.lt_size s1);have g5:h2.get? s.heap.objs.size=some { cls:=.type "tuple",data:=.seq #[.int i tk,x'] }:=sb.extBut _ _ ezT a5;have keep2:∀ b u,b∉[e,it]->s.heap.get? b=some u->h2.get? b=some u:=fun b u hb g=>by
   simp only[List.mem_cons,List.not_mem_nil,or_false,not_or]at hb;exact sb.extBut _ _ hb.1 (kk b u hb.1 hb.2 g)
  have I2:=Inv.turnedNew (t':=tk+1) (h':=h2) (a:=s.heap.objs.size) (o:=.tup [.int i,x]) I keep2 hf (Nat.le_refl _)
   ⟨by show(2:Nat)<=sizeLine;decide,[.int i tk,x'],.cons ⟨_,rfl⟩ (.cons ru1 .nil),_,g5,rfl,_,rfl⟩
  refine⟨.ref s.heap.objs.size,_,I2,rfl,⟨_,x,I.hok.fresh (Nat.le_refl _),rfl,fun zs hz=>by rw[I.tuple_inj hz hl];exact hx,rfl⟩,⟨⟨_,b1⟩,a4.1.extBut sb.extBut hne.symm⟩,fun b hb=>?_⟩
  rw[upd_ne ?_]
  · exact(hf b hb).1
  obtain⟨o1,e1,_⟩:=s4;simp only[List.mem_cons,List.not_mem_nil,or_false]at hb;rcases hb with rfl | rfl
  · exact Nat.ne_of_lt (Heap.lt_size s1)
  exact Nat.ne_of_lt (Heap.lt_size e1)
 done:=by
  intro X hP hw hK hc i pins s σ H E I hf st hg;subst hP hw hK;obtain⟨xs,hl,hx⟩:=hg;obtain⟨⟨old,s1⟩,s4⟩:=st;obtain⟨its1,rv1,p1,hz1⟩:=I.tuple hl;have l1:=rv1.length;have e1:its1.toArray.size=i:=by rw[List.size_toArray];omega
  subst e1;refine wpAny_pyNext_enum_endD (draws_tuple (prog:=X.prog) (w:=X.w) (A:=X.A.in1) (I.ok.hd hc) it l hli its1.toArray) s1 ⟨s4,p1⟩ fun h1 kk=>⟨rfl,Inv.turnedL (t':=s.toks) I (fun b u hb g=>?_) hf⟩;simp only[List.mem_cons,List.not_mem_nil,or_false,not_or]at hb;exact kk b u hb.2 g
 self:=fun _ _ _ _ _ st h=>by
  obtain⟨⟨old,s1⟩,_⟩:=st;exact wpAny_pyIter_enum s1 h
section
variable{X:Cx}{elts:List Expr}{k:Nat}{tp:Pos}
noncomputable def iEnumT(K:W.Frag)(ta:TA):TI:=fun σ H R=>ta σ H fun vs H1=>∃ l,vs=[.ref l]/\(∃ xs,SqT K H1 l xs)/\R (Iteu K l) H1
theorem pi_enumT{a:Expr}{ta:TA}{p pos:Pos}(hg:Gl X "enumerate")(hm:X.mg "enumerate"=none)(ha:PA X [a] ta)(hs:starEach [a] X.env=[(false,eval a X.env)]) :
 PI X (.Tuple elts k tp) (.Call (.Name "enumerate" p) [a] [] pos) (iEnumT X.K ta):=by
 intro pins s σ H R I h;refine Call_ (ld_blt I hg hm b_enumerate (PyProof.Rows.callWith_type1 (thn (ha pos pins s σ H _ I h) fun us s1 ⟨vs,H1,I1,r1,q1⟩=>?_) hs rfl));obtain⟨l,e,⟨xs,hl⟩,q⟩:=q1;subst e;obtain⟨u,rfl,ru⟩:=vals1 r1;cases ru;obtain⟨its1,rv1,p1,_⟩:=I1.tuple hl;have hlt:l < s1.heap.objs.size:=p1.lt;refine call_enumerate_tuple p1 fun h' he hit hsz hk=>wpAny_pyIter_enum he ?_;refine⟨s1.heap.objs.size+1,[s1.heap.objs.size+1,s1.heap.objs.size],_,_,H1,rfl,I1.kept (t':=s1.toks) hk,turn_enumT l _ _ (Nat.succ_ne_self _) (Nat.ne_of_lt (Nat.lt_succ_of_lt hlt)) (Nat.ne_of_lt hlt),⟨⟨_,he⟩,hit⟩,fun b hb=>?_,q⟩;have hb':s1.heap.objs.size<=b:=by
  simp only[List.mem_cons,List.not_mem_nil,or_false]at hb;rcases hb with rfl | rfl
  · exact Nat.le_add_right _ 1
  exact Nat.le_refl _
 exact I1.fpOk hb' (I1.hok.fresh hb')
end
theorem B.ienumT{X:Cx}{elts:List Expr}{k:Nat}{tp:Pos}{a:Expr}{t:TA}{p pos:Pos}(hm:X.mg "enumerate"=none)(ha:Bx (PA X [a] t))(hg:Gl X "enumerate":=by rfl)(h1:plainE a=true:=by rfl):Bx (PI X (.Tuple elts k tp) (.Call (.Name "enumerate" p) [a] [] pos) (iEnumT X.K t)):=
 ⟨pi_enumT hg hm ha.out (by rw[star_of h1];rfl)⟩
theorem wEnumT{K:W.Frag}{σ:L2.St}{H:Hp}{ta:TA}{R:It->Hp->Prop}(h:ta σ H fun vs H1=>∃ l,vs=[.ref l]/\(∃ xs,SqT K H1 l xs)/\R (Iteu K l) H1):iEnumT K ta σ H R:=h
theorem for_enumT{K:PySem.W.Frag}{l:Addr}{xs:List V}{g:TG}{tb:TS}{D:Ends}{σ:L2.St}{H:Hp}(Pv:Nat->L2.St->Hp->Prop)(h0:Pv 0 σ H)(hl:∀ i σ H,Pv i σ H->SqT K H l xs)
 (hs:∀ i x σ H T,xs[i]?=some x->H T=none->Pv i σ H->g (.ref T) σ (upd H T (.tup [.int i,x])) fun σ2 H2=>tb { D with nx:=Pv (i+1),ct:=Pv (i+1),bk:=D.nx } σ2 H2) (hd:∀ σ H,Pv xs.length σ H->D.nx σ H) :
 ∃ W:Nat->Nat->L2.St->Hp->Prop,(∃ m,W 0 m σ H) /\ ∀ i m σ H,W i m σ H ->
   ((Iteu K l).stop i H/\D.nx σ H)∨((Iteu K l).go i H /\ ∃ N:L2.St->Hp->Prop,(∀ σ' H',N σ' H' -> ∃ m',m' < m/\W (i+1) m' σ' H') /\ ∀ x H',(Iteu K l).yld i H x H'->g x σ H' fun σ2 H2=>tb { D with nx:=N,ct:=N,bk:=D.nx } σ2 H2):=by
 refine⟨fun i m σ H=>m=xs.length - i/\i<=xs.length/\Pv i σ H,⟨xs.length,by simp,Nat.zero_le _,h0⟩,?_⟩
 rintro i m σ H ⟨rfl,hi,p⟩;have q:=hl i σ H p;by_cases hlt:i < xs.length
 · refine .inr ⟨⟨xs,xs[i],q,by simp[hlt]⟩,Pv (i+1),fun σ' H' p'=>⟨xs.length - (i+1),by omega,rfl,hlt,p'⟩,fun v H' y=>?_⟩
   obtain⟨T,x,hT,rfl,hx,rfl⟩:=y;exact hs i x σ H T (hx xs q) hT p
 have e:i=xs.length:=by omega
 subst e;exact .inl ⟨⟨xs,q,rfl⟩,hd _ _ p⟩
end SW
namespace SW
open PySem PySem.Spec PyProof.Rows L2
section
variable{prog:Program}{w:World}{A:Around}{E:Value->Shared->Prop}{s:Shared}
end
section
variable{X:Cx}
end
section
variable{X:Cx}
end
section
variable{X:Cx}
end
section
variable{X:Cx}
end
noncomputable def RowV(H:Hp)(v:V)(r:MRow):Prop:=∃ b ys,v=.ref b/\H b=some (.tup ys)/\Prs H ys r
noncomputable def RowsV(H:Hp)(v:V)(R:MRows):Prop:=∃ a xs,v=.ref a/\H a=some (.tup xs)/\Paired (RowV H) xs R
noncomputable def ElV(H:Hp)(v:V):Option MRows->Prop
 | none=>v=.non
 | some R=>RowsV H v R
structure Sta where
 el:Option MRows
 mv:Int
 nw:MRows
noncomputable def StV(H:Hp)(v:V)(S:Sta):Prop:=∃ u ve vn,v=.ref u/\H u=some (.tup [ve,.int S.mv,vn])/\ElV H ve S.el/\RowsV H vn S.nw
theorem RowV.keep{H H':Hp}{v:V}{r:MRow}(h:RowV H v r)(k:TK H H'):RowV H' v r:=by
 obtain⟨b,ys,e,h1,h2⟩:=h;exact⟨b,ys,e,k _ _ h1,h2.keep k⟩
theorem rows_keep{H H':Hp}{xs:List V}{R:MRows}(h:Paired (RowV H) xs R)(k:TK H H'):Paired (RowV H') xs R:=Paired.mapP h fun _ _ z=>z.keep k
theorem RowsV.keep{H H':Hp}{v:V}{R:MRows}(h:RowsV H v R)(k:TK H H'):RowsV H' v R:=by
 obtain⟨b,ys,e,h1,h2⟩:=h;exact⟨b,ys,e,k _ _ h1,rows_keep h2 k⟩
theorem ElV.keep{H H':Hp}{v:V}{e:Option MRows}(h:ElV H v e)(k:TK H H'):ElV H' v e:=by
 cases e with
 | none=>exact h
 | some R=>exact RowsV.keep h k
theorem StV.keep{H H':Hp}{v:V}{S:Sta}(h:StV H v S)(k:TK H H'):StV H' v S:=by
 obtain⟨u,ve,vn,e,h1,h2,h3⟩:=h;exact⟨u,ve,vn,e,k _ _ h1,h2.keep k,h3.keep k⟩
inductive Flt where
 | places
 | moved
 | at_ (kind:Nat) (sh:Bool) (i:Nat)
noncomputable def shN:Bool->PySem.Str
 | true=>"elder"
 | false=>"newer"
noncomputable def fkN:Nat->PySem.Str
 | 0=>"place"
 | 1=>"emptied"
 | _=>"twice"
noncomputable def fltL:Flt->List V
 | .places=>[.str "places"]
 | .moved=>[.str "moved"]
 | .at_ k sh i=>[.str (fkN k),.str (shN sh),.int i]
noncomputable def FltV(H:Hp)(v:V):Option Flt->Prop
 | none=>v=.non
 | some f=>∃ u,v=.ref u/\H u=some (.tup (fltL f))
noncomputable abbrev Trip:=Bool×Nat×Int
noncomputable def tripR(sh:Bool)(i:Nat)(r:MRow):List Trip:=r.map fun p=>(sh,i,p.1)
noncomputable def tripF(sh:Bool):Nat->MRows->List Trip
 | _,[]=>[]
 | i,r::rs=>tripR sh i r++tripF sh (i+1) rs
theorem tripF_snoc(sh:Bool):∀(R:MRows) (i:Nat) (r:MRow),tripF sh i (R++[r])=tripF sh i R++tripR sh (i+R.length) r
 | [],i,r=>by show tripR sh i r++[]=[]++tripR sh (i+0) r;rw[List.append_nil];rfl
 | q::R,i,r=>by
   show tripR sh i q++tripF sh (i+1) (R++[r])=(tripR sh i q++tripF sh (i+1) R)++_;rw[tripF_snoc sh R (i+1) r,List.append_assoc,List.length_cons]
   congr 3
   omega
noncomputable def firstP(f m:Int)(sz:Bool->Nat)(mv:Bool->Int):List Int->List Trip->Option Flt
 | _,[]=>none
 | ks,(sh,i,k)::ts=>if(k*f+m) % 65536 % (sz sh:Int)≠i then some (.at_ 0 sh i)else if(i:Int) < mv sh then some (.at_ 1 sh i)else if k∈ks then some (.at_ 2 sh i)else firstP f m sz mv (ks++[k]) ts
theorem firstP_cons(f m:Int)(sz:Bool->Nat)(mv:Bool->Int)(ks:List Int)(sh:Bool)(i:Nat)(k:Int)(ts:List Trip):firstP f m sz mv ks ((sh,i,k)::ts)=if(k*f+m) % 65536 % (sz sh:Int)≠i then some (.at_ 0 sh i)else if(i:Int) < mv sh then some (.at_ 1 sh i)else if k∈ks then some (.at_ 2 sh i)else firstP f m sz mv (ks++[k]) ts:=rfl
instance (n:Nat):Decidable (isSize n):=inferInstanceAs (Decidable (n∈[4,8,16,32,64,128,256,512,1024,2048,4096]))
noncomputable def rightP(S:Sta):Bool:=decide (isSize S.nw.length) && match S.el with | none=>true | some E=>decide (isSize E.length) && (decide (E.length=2*S.nw.length) || decide (S.nw.length=2*E.length))
noncomputable def rightM(S:Sta):Bool:=decide (0<=S.mv) && decide (S.mv < match S.el with | none=>1 | some E=>(E.length:Int))
noncomputable def szOf(S:Sta):Bool->Nat:=fun b=>if b then(S.el.getD []).length else S.nw.length
noncomputable def mvOf(S:Sta):Bool->Int:=fun b=>if b then S.mv else 0
noncomputable def tripS(S:Sta):List Trip:=tripF true 0 (S.el.getD [])++tripF false 0 S.nw
noncomputable def faultOf(f m:Int)(S:Sta):Option Flt:=if rightP S=false then some .places else if rightM S=false then some .moved else firstP f m (szOf S) (mvOf S) [] (tripS S)
theorem tripR_len(sh:Bool)(i:Nat)(r:MRow):(tripR sh i r).length=r.length:=List.length_map ..
theorem tripF_len(sh:Bool):∀(R:MRows) (i:Nat),(tripF sh i R).length=tot R
 | [],_=>rfl
 | r::R,i=>by
   show(tripR sh i r++tripF sh (i+1) R).length=r.length+tot R;rw[List.length_append,tripR_len,tripF_len sh R]
noncomputable def TrV(H:Hp)(v:V)(t:Trip):Prop:=∃ b,v=.ref b/\H b=some (.tup [.str (shN t.1),.int (t.2.1:Nat),.int t.2.2])
noncomputable abbrev TrVs(H:Hp)(xs:List V)(ts:List Trip):Prop:=Paired (TrV H) xs ts
theorem TrV.keep{H H':Hp}{v:V}{t:Trip}(h:TrV H v t)(k:TK H H'):TrV H' v t:=by
 obtain⟨b,e,h⟩:=h;exact⟨b,e,k _ _ h⟩
theorem TrVs.keep{H H':Hp}{xs:List V}{ts:List Trip}(h:TrVs H xs ts)(k:TK H H'):TrVs H' xs ts:=Paired.mapP h fun _ _ z=>z.keep k
noncomputable def kbs(ks:List Int):List (Key×V):=ks.map fun k=>(Sum.inl k,V.bl true)
theorem valV_kbs(ks:List Int)(k:Int):(valV (kbs ks) (Sum.inl k)).isSome=decide (k∈ks):=by
 induction ks with
 | nil=>rfl
 | cons j ks ih=>
   unfold valV kbs at ih ⊢;rw[List.map_cons];by_cases h:j=k
   · subst h
     simp
   have h2:¬ k=j:=fun z=>h z.symm;simp[h,h2]at ih ⊢
   simpa using ih
theorem putK_kbs{ks:List Int}{k:Int}(h:k∉ks):putK (kbs ks) (Sum.inl k) (V.bl true)=kbs (ks++[k]):=by
 have e:(valV (kbs ks) (Sum.inl k)).isSome=false:=by rw[valV_kbs];exact decide_eq_false h
 unfold putK;rw[valV_any,e,if_neg Bool.false_ne_true];unfold kbs;rw[List.map_append]
 rfl
theorem kbs_len(ks:List Int):(kbs ks).length=ks.length:=List.length_map ..
namespace B
theorem ppnil{X:Cx}{pos:Pos}:Bx (PPs X pos [] [] []):=⟨pps_nil⟩
theorem ppcons{X:Cx}{pos:Pos}{k v:Expr}{ks:List (Option Expr)}{vs:List Expr}{tk tv:TE}{trs:List (TE×TE)}(hk:Bx (PE X k tk))(hv:Bx (PE X v tv))(hr:Bx (PPs X pos ks vs trs)):Bx (PPs X pos (some k::ks) (v::vs) ((tk,tv)::trs)):=⟨pps_cons hk.out hv.out hr.out⟩
theorem disp{X:Cx}{pos:Pos}{keys:List (Option Expr)}{values:List Expr}{trs:List (TE×TE)}(h:Bx (PPs X pos keys values trs))(hall:keys.all (·.isSome)=true:=by rfl)(hl:keys.length=values.length:=by rfl)(h0:keys≠[]:=by intro h;cases h)(h15:keys.length<=15:=by exact Nat.le_of_ble_eq_true rfl):Bx (PE X (.Dict keys values pos) (tDisp trs)):=⟨pe_disp h.out hall hl h0 h15⟩
end B
theorem wDisp{trs:List (TE×TE)}{σ:L2.St}{H:Hp}{Q:VK}(h:∀ p,H p=none->tPairs trs σ (upd H p (.dK [])) fun ps H2=>H2 p=some (.dK []) /\ ∃ kvs:List (Key×V),ps=kvs.map (fun kv=>(kV kv.1,kv.2))/\kvs.length<=15/\Q (.ref p) (upd H2 p (.dK (mergeK [] kvs)))):tDisp trs σ H Q:=h
theorem wPairs{tk tv:TE}{r:List (TE×TE)}{σ:L2.St}{H:Hp}{Q:List (V×V)->Hp->Prop}(h:tk σ H fun x H1=>tv σ H1 fun y H2=>tPairs r σ H2 fun ps H3=>Q ((x,y)::ps) H3):tPairs ((tk,tv)::r) σ H Q:=h
theorem wPairs0{σ:L2.St}{H:Hp}{Q:List (V×V)->Hp->Prop}(h:Q [] H):tPairs [] σ H Q:=h
theorem merge2{a b:PySem.Str}{x y:V}(hab:(a == b)=false):mergeK [] [((Sum.inr a:Key),x),(Sum.inr b,y)]=[(Sum.inr a,x),(Sum.inr b,y)]:=by
 show putK (putK [] (Sum.inr a:Key) x) (Sum.inr b) y=_;unfold putK;have hn:¬ a=b:=fun z=>by rw[z,beq_self_eq_true]at hab;cases hab
 simp[hn]
theorem disp2{Qf:List (Key×V)->Prop}{H:Hp}{p:Addr}{a b:PySem.Str}{x y:V}(hp:H p=some (.dK []))(q:Qf [(Sum.inr a,x),(Sum.inr b,y)]) :
 H p=some (.dK []) /\ ∃ kvs:List (Key×V),[(V.str a,x),(V.str b,y)]=kvs.map (fun kv=>(kV kv.1,kv.2))/\kvs.length<=15/\Qf kvs:=
 ⟨hp,[(Sum.inr a,x),(Sum.inr b,y)],rfl,by show(2:Nat)<=15;decide,q⟩
theorem val2a{a b:PySem.Str}{x y:V}:valV [((Sum.inr a:Key),x),(Sum.inr b,y)] (Sum.inr a)=some x:=valV_pos rfl
theorem val2b{a b:PySem.Str}{x y:V}(hab:(a == b)=false):valV [((Sum.inr a:Key),x),(Sum.inr b,y)] (Sum.inr b)=some y:=by
 have hn:¬ ((Sum.inr a:Key))=Sum.inr b:=fun z=>by injection z with z;rw[z,beq_self_eq_true]at hab;cases hab
 rw[valV_neg hn];exact valV_pos rfl
theorem inV_intsB(k:Int):∀ ks:List Int,inV (V.int k) (ks.map V.int)=decide (k∈ks)
 | []=>rfl
 | j::ks=>by
   have ih:=inV_intsB k ks;show(eqV (V.int j) (V.int k) || inV (V.int k) (ks.map V.int))=decide (k∈j::ks);rw[ih,Bool.eq_iff_iff,Bool.or_eq_true,decide_eq_true_iff,decide_eq_true_iff,List.mem_cons];show((j == k)=true∨k∈ks) ↔ _;rw[beq_iff_eq];exact⟨fun z=>z.elim (fun e=>.inl e.symm) .inr,fun z=>z.elim (fun e=>.inl e.symm) .inr⟩
theorem take_snocF{α:Type}{xs:List α}{i:Nat}{v:α}(h:xs[i]?=some v):xs.take (i+1)=xs.take i++[v]:=by rw[List.take_add_one,h];rfl
theorem B.ilistK(K:W.Frag){X:Cx}{tg l:Expr}{tl:TE}(hl:Bx (PE X l tl))(h:X.K=K:=by rfl):Bx (PI X tg l (iList K tl)):=by subst h;exact⟨pi_list hl.out⟩
mutual
inductive Any(H:Hp):V->PyData->Prop
 | non:Any H .non .none
 | bl (b:Bool):Any H (.bl b) (.bool b)
 | int (i:Int):Any H (.int i) (.int i)
 | str (x:PySem.Str):Any H (.str x) (.str x)
 | lst {a:Addr}{xs:List V}{ds:List PyData} (h:H a=some (.lst xs)) (r:Anys H xs ds):Any H (.ref a) (.list ds)
 | tup {a:Addr}{xs:List V}{ds:List PyData} (h:H a=some (.tup xs)) (r:Anys H xs ds):Any H (.ref a) (.tuple ds)
 | dic {a:Addr} (h:H a=some (.dK [])):Any H (.ref a) (.dict [])
inductive Anys(H:Hp):List V->List PyData->Prop
 | nil:Anys H [] []
 | cons {x:V}{xs:List V}{d:PyData}{ds:List PyData} (h:Any H x d) (r:Anys H xs ds):Anys H (x::xs) (d::ds)
end
mutual
theorem Any.same{H H':Hp}(s:Same H H'):∀{v:V}{d:PyData},Any H v d->Any H' v d
 | _,_,.non=>.non
 | _,_,.bl b=>.bl b
 | _,_,.int i=>.int i
 | _,_,.str x=>.str x
 | _,_,.lst h r=>.lst (s _ _ h) (Anys.same s r)
 | _,_,.tup h r=>.tup (s _ _ h) (Anys.same s r)
 | _,_,.dic h=>.dic (s _ _ h)
theorem Anys.same{H H':Hp}(s:Same H H'):∀{xs:List V}{ds:List PyData},Anys H xs ds->Anys H' xs ds
 | _,_,.nil=>.nil
 | _,_,.cons h r=>.cons (Any.same s h) (Anys.same s r)
end
theorem Anys.len{H:Hp}:∀{xs:List V}{ds:List PyData},Anys H xs ds->xs.length=ds.length
 | _,_,.nil=>rfl
 | _,_,.cons _ r=>congrArg (· + 1) (Anys.len r)
theorem Anys.get{H:Hp}:∀{xs:List V}{ds:List PyData}{i:Nat}{x:V},Anys H xs ds->xs[i]?=some x -> ∃ d,ds[i]?=some d/\Any H x d
 | _,_,0,_,.cons h r,e=>⟨_,rfl,by cases e;exact h⟩
 | _,_,i+1,_,.cons h r,e=>Anys.get (i:=i) r e
noncomputable def isWhD:PyData->Bool
 | .int _=>true
 | _=>false
noncomputable def isInD(lo:Int):PyData->Bool
 | .int i=>decide (lo<=i) && decide (i<=1000000000)
 | _=>false
noncomputable def isPairD:PyData->Bool
 | .tuple [a,b]=>isInD 0 a && isInD (-1000000000) b
 | _=>false
noncomputable def isRowD:PyData->Bool
 | .tuple ps=>ps.all isPairD
 | _=>false
noncomputable def areRowsD:PyData->Bool
 | .tuple rs=>rs.all isRowD
 | _=>false
noncomputable def isElD:PyData->Bool
 | .none=>true
 | d=>areRowsD d
noncomputable def isStateD:PyData->Bool
 | .tuple [e,m,n]=>isElD e && isWhD m && areRowsD n
 | _=>false
theorem pair_of{H:Hp}{v:V}{d:PyData}(h:Any H v d)(e:isPairD d=true):∃ q:Int×Int,PrV H v q/\d=.tuple [.int q.1,.int q.2]/\(0<=q.1/\q.1<=1000000000)/\(-1000000000<=q.2/\q.2<=1000000000):=by
 unfold isPairD at e;split at e
 · rename_i a b
   cases h with
   | tup h r=>
     cases r with
     | cons h1 r=>
       cases r with
       | cons h2 r=>
         cases r;rw[Bool.and_eq_true]at e;obtain⟨e1,e2⟩:=e;cases h1 with
         | int i=>
           cases h2 with
           | int j=>
             have e1:(decide (0<=i) && decide (i<=1000000000))=true:=e1;have e2:(decide (-1000000000<=j) && decide (j<=1000000000))=true:=e2;rw[Bool.and_eq_true,decide_eq_true_iff,decide_eq_true_iff]at e1 e2;exact⟨(i,j),⟨_,rfl,h⟩,rfl,e1,e2⟩
           | _=>cases e2
         | _=>cases e1
 cases e
noncomputable def rowD(r:MRow):PyData:=.tuple (r.map fun q=>.tuple [.int q.1,.int q.2])
noncomputable def rowsD(R:MRows):PyData:=.tuple (R.map rowD)
theorem row_of{H:Hp}{v:V}{d:PyData}(h:Any H v d)(e:isRowD d=true):∃ r:MRow,RowV H v r/\d=rowD r:=by
 unfold isRowD at e;split at e
 · rename_i ps
   cases h with
   | @tup a xs _ h r=>
     have key:∀{xs:List V}{ps:List PyData},Anys H xs ps->ps.all isPairD=true -> ∃ r:MRow,Prs H xs r/\ps=r.map fun q=>PyData.tuple [.int q.1,.int q.2]:=by
      intro xs ps r
      induction ps generalizing xs with
      | nil=>intro _;cases r;exact⟨[],.nil,rfl⟩
      | cons d ps ih=>
        intro e;rw[List.all_cons,Bool.and_eq_true]at e;cases r with
        | cons h1 r=>
          obtain⟨q,hq,rfl,_⟩:=pair_of h1 e.1;obtain⟨r',hr',rfl⟩:=ih r e.2;exact⟨q::r',.cons hq hr',rfl⟩
     obtain⟨r',hr',rfl⟩:=key r e;exact⟨r',⟨_,_,rfl,h,hr'⟩,rfl⟩
 cases e
theorem rows_of{H:Hp}{v:V}{d:PyData}(h:Any H v d)(e:areRowsD d=true):∃ R:MRows,RowsV H v R/\d=rowsD R:=by
 unfold areRowsD at e;split at e
 · rename_i ps
   cases h with
   | @tup a xs _ h r=>
     have key:∀{xs:List V}{ps:List PyData},Anys H xs ps->ps.all isRowD=true -> ∃ R:MRows,Paired (RowV H) xs R/\ps=R.map rowD:=by
      intro xs ps r
      induction ps generalizing xs with
      | nil=>intro _;cases r;exact⟨[],.nil,rfl⟩
      | cons d ps ih=>
        intro e;rw[List.all_cons,Bool.and_eq_true]at e;cases r with
        | cons h1 r=>
          obtain⟨q,hq,rfl⟩:=row_of h1 e.1;obtain⟨r',hr',rfl⟩:=ih r e.2;exact⟨q::r',.cons hq hr',rfl⟩
     obtain⟨r',hr',rfl⟩:=key r e;exact⟨r',⟨_,_,rfl,h,hr'⟩,rfl⟩
 cases e
noncomputable def elD:Option MRows->PyData
 | none=>.none
 | some R=>rowsD R
noncomputable def stD(S:Sta):PyData:=.tuple [elD S.el,.int S.mv,rowsD S.nw]
theorem el_of{H:Hp}{v:V}{d:PyData}(h:Any H v d)(e:isElD d=true):∃ R:Option MRows,ElV H v R/\d=elD R:=by
 unfold isElD at e;split at e
 · cases h;exact⟨none,rfl,rfl⟩
 obtain⟨R,h1,h2⟩:=rows_of h e;exact⟨some R,h1,h2⟩
theorem state_of{H:Hp}{v:V}{d:PyData}(h:Any H v d)(e:isStateD d=true):∃ S:Sta,StV H v S/\d=stD S:=by
 unfold isStateD at e;split at e
 · rename_i a b c
   cases h with
   | tup h r=>
     cases r with
     | cons h1 r=>
       cases r with
       | cons h2 r=>
         cases r with
         | cons h3 r=>
           cases r;rw[Bool.and_eq_true,Bool.and_eq_true]at e;obtain⟨⟨e1,e2⟩,e3⟩:=e;obtain⟨el,g1,rfl⟩:=el_of h1 e1;obtain⟨nw,g3,rfl⟩:=rows_of h3 e3;cases h2 with
           | int i=>exact⟨⟨el,i,nw⟩,⟨_,_,_,rfl,h,g1,g3⟩,rfl⟩
           | _=>cases e2
 cases e
theorem pr_any{H:Hp}{v:V}{q:Int×Int}(h:PrV H v q):Any H v (.tuple [.int q.1,.int q.2]):=by
 obtain⟨a,rfl,h⟩:=h;exact .tup h (.cons (.int _) (.cons (.int _) .nil))
theorem prs_any{H:Hp}:∀{xs:List V}{r:MRow},Prs H xs r->Anys H xs (r.map fun q=>PyData.tuple [.int q.1,.int q.2])
 | _,_,.nil=>.nil
 | _,_,.cons h r=>.cons (pr_any h) (prs_any r)
theorem row_any{H:Hp}{v:V}{r:MRow}(h:RowV H v r):Any H v (rowD r):=by
 obtain⟨b,ys,rfl,h1,h2⟩:=h;exact .tup h1 (prs_any h2)
theorem rowsl_any{H:Hp}:∀{xs:List V}{R:MRows},Paired (RowV H) xs R->Anys H xs (R.map rowD)
 | _,_,.nil=>.nil
 | _,_,.cons h r=>.cons (row_any h) (rowsl_any r)
theorem rows_any{H:Hp}{v:V}{R:MRows}(h:RowsV H v R):Any H v (rowsD R):=by
 obtain⟨b,ys,rfl,h1,h2⟩:=h;exact .tup h1 (rowsl_any h2)
theorem el_any{H:Hp}{v:V}{e:Option MRows}(h:ElV H v e):Any H v (elD e):=by
 cases e with
 | none=>rw[show v=V.non from h];exact .non
 | some R=>exact rows_any h
theorem st_any{H:Hp}{v:V}{S:Sta}(h:StV H v S):Any H v (stD S):=by
 obtain⟨u,ve,vn,rfl,h1,h2,h3⟩:=h;exact .tup h1 (.cons (el_any h2) (.cons (.int _) (.cons (rows_any h3) .nil)))
noncomputable def tyD:PyData->String
 | .none=>"NoneType"
 | .bool _=>"bool"
 | .int _=>"int"
 | .str _=>"str"
 | .list _=>"list"
 | .tuple _=>"tuple"
 | .dict _=>"dict"
noncomputable def isIntD:PyData->Bool
 | .int _=>true
 | .bool _=>true
 | _=>false
noncomputable def isBoolD:PyData->Bool
 | .bool _=>true
 | _=>false
noncomputable def isTupD:PyData->Bool
 | .tuple _=>true
 | _=>false
theorem Any.ty{K:W.Frag}{H:Hp}{v:V}{d:PyData}(h:Any H v d):TyOf K H v (.type (tyD d)):=by
 cases h with
 | non=>exact .non
 | bl b=>exact .bl b
 | int i=>exact .int i
 | str x=>exact .str x
 | lst h r=>exact .lst h
 | tup h r=>exact .tup h
 | dic h=>exact .dK h
theorem isi_d_int{K:W.Frag}(d:PyData):W.kitOne K (.type (tyD d)) (.type "int")=some (isIntD d):=by
 cases d with
 | none=>show W.kitOne [] (.type "NoneType") (.type "int")=some false;decide +kernel
 | bool b=>show W.kitOne [] (.type "bool") (.type "int")=some true;decide +kernel
 | int i=>show W.kitOne [] (.type "int") (.type "int")=some true;decide +kernel
 | str x=>show W.kitOne [] (.type "str") (.type "int")=some false;decide +kernel
 | list x=>show W.kitOne [] (.type "list") (.type "int")=some false;decide +kernel
 | tuple x=>show W.kitOne [] (.type "tuple") (.type "int")=some false;decide +kernel
 | dict x=>show W.kitOne [] (.type "dict") (.type "int")=some false;decide +kernel
theorem isi_d_bool{K:W.Frag}(d:PyData):W.kitOne K (.type (tyD d)) (.type "bool")=some (isBoolD d):=by
 cases d with
 | none=>show W.kitOne [] (.type "NoneType") (.type "bool")=some false;decide +kernel
 | bool b=>show W.kitOne [] (.type "bool") (.type "bool")=some true;decide +kernel
 | int i=>show W.kitOne [] (.type "int") (.type "bool")=some false;decide +kernel
 | str x=>show W.kitOne [] (.type "str") (.type "bool")=some false;decide +kernel
 | list x=>show W.kitOne [] (.type "list") (.type "bool")=some false;decide +kernel
 | tuple x=>show W.kitOne [] (.type "tuple") (.type "bool")=some false;decide +kernel
 | dict x=>show W.kitOne [] (.type "dict") (.type "bool")=some false;decide +kernel
theorem isi_d_tup{K:W.Frag}(d:PyData):W.kitOne K (.type (tyD d)) (.type "tuple")=some (isTupD d):=by
 cases d with
 | none=>show W.kitOne [] (.type "NoneType") (.type "tuple")=some false;decide +kernel
 | bool b=>show W.kitOne [] (.type "bool") (.type "tuple")=some false;decide +kernel
 | int i=>show W.kitOne [] (.type "int") (.type "tuple")=some false;decide +kernel
 | str x=>show W.kitOne [] (.type "str") (.type "tuple")=some false;decide +kernel
 | list x=>show W.kitOne [] (.type "list") (.type "tuple")=some false;decide +kernel
 | tuple x=>show W.kitOne [] (.type "tuple") (.type "tuple")=some true;decide +kernel
 | dict x=>show W.kitOne [] (.type "dict") (.type "tuple")=some false;decide +kernel
theorem Fn.imp{P:Program}{w:World}{K:W.Frag}{mg:Str->Option Value}{base:Heap}{x:Str}{k:Nat}{ps:List Str}{sp sp':Sp}(F:Fn P w K mg base x k ps sp)(h:∀ vs H Q E,sp' vs H Q E->sp vs H Q E):Fn P w K mg base x k ps sp':=by
 obtain⟨f,fd,a,b⟩:=F.ex;exact⟨f,fd,a.imp h,b⟩
section
variable{X:Cx}
theorem op_neLE(hu:X.A.units < cLine):OpR X (compareOp .NotEq) (fun x y H Q=>∃ a b xs,x=.ref a/\y=.ref b/\SqL X.K H a xs/\SqL X.K H b []/\Q (.bl (!xs.isEmpty)) H):=by
 intro pins s σ H x y v u Q I rx ry h;obtain⟨a,b,xs,rfl,rfl,ha,hb,q⟩:=h;cases rx;cases ry;obtain⟨i1,r1,⟨o1,n1,g1,c1,_,d1⟩,_⟩:=I.list ha;obtain⟨i2,r2,⟨o2,n2,g2,c2,_,d2⟩,_⟩:=I.list hb;have e2:i2=[]:=by cases r2;rfl
 subst e2;cases r1 with
 | nil=>exact SeqAt.RcNeAt.lists (items:=#[]) (items2:=#[]) (e:=fun _=>true) ⟨o1,g1,c1,n1,d1⟩ ⟨o2,g2,c2,n2,d2⟩ rfl hu (fun j h1 _=>absurd h1 (by simp)) _ _ _ _ ⟨.bl false,H,I,rfl,q⟩
 | cons a b=>exact SeqAt.RcNeAt.lists_lengths ⟨o1,g1,c1,n1,d1⟩ ⟨o2,g2,c2,n2,d2⟩ (by simp) hu _ _ _ _ ⟨.bl true,H,I,rfl,q⟩
end
section
variable{X:Cx}
end
section
variable{t:Addr}{pc:Int}{ve:V}{mv:Int}{qn sp:Addr}
end
section
variable{H H':Hp}{md t sp qn qe:Addr}{ve:V}{f m:Int}{pc:Nat}{M:MT}{ss:Spots}{lsN lsE:List Addr}{F G:Addr->Prop}
end
theorem len_le_sub{α:Type}[DecidableEq α]:∀{a b:List α},a.Nodup->(∀ x∈a,x∈b)->a.length<=b.length
 | [],b,_,_=>Nat.zero_le _
 | x::a,b,n,h=>by
   obtain⟨h1,h2⟩:=List.nodup_cons.mp n;have hx:=h x (List.mem_cons_self ..);have:=len_le_sub (a:=a) (b:=b.erase x) h2 (fun y hy=>(List.mem_erase_of_ne (fun z=>h1 (by rw[← z];exact hy))).mpr (h y (List.mem_cons_of_mem _ hy)))
   rw[List.length_erase_of_mem hx]at this;have hp:=List.length_pos_of_mem hx;rw[List.length_cons];omega
theorem len_eq_mem{α:Type}[DecidableEq α]{a b:List α}(ha:a.Nodup)(hb:b.Nodup)(h:∀ x,x∈a ↔ x∈b):a.length=b.length:=
 Nat.le_antisymm (len_le_sub ha fun x=>(h x).mp) (len_le_sub hb fun x=>(h x).mpr)
theorem dd_all:∀(ns acc:List Int),acc.Nodup->(ns.foldl step_dedup acc).Nodup /\ ∀ x,x∈ns.foldl step_dedup acc ↔ x∈acc∨x∈ns
 | [],acc,h=>⟨h,fun x=>⟨.inl,fun z=>z.elim id fun y=>(List.not_mem_nil y).elim⟩⟩
 | n::ns,acc,h=>by
   have h2:(step_dedup acc n).Nodup /\ ∀ x,x∈step_dedup acc n ↔ x∈acc∨x=n:=by
    unfold step_dedup;split
    · rename_i e
      have e:n∈acc:=by simpa using e
      exact⟨h,fun x=>⟨.inl,fun z=>z.elim id fun y=>y ▸ e⟩⟩
    rename_i e;have e:n∉acc:=by simpa using e
    refine⟨?_,fun x=>by simp⟩
    rw[List.nodup_append];exact⟨h,by simp,fun a ha b hb z=>e (by rw[List.mem_singleton.mp hb]at z;rw[← z];exact ha)⟩
   obtain⟨i1,i2⟩:=dd_all ns _ h2.1;refine⟨i1,fun x=>?_⟩;rw[List.foldl_cons,i2 x,h2.2 x,List.mem_cons]
   constructor
   · rintro((z | z) | z)
     · exact .inl z
     · exact .inr (.inl z)
     exact .inr (.inr z)
   rintro(z | z | z)
   · exact .inl (.inl z)
   · exact .inl (.inr z)
   exact .inr z
theorem nDist_len{ns l:List Int}(h:l.Nodup)(e:∀ x,x∈l ↔ x∈ns):nDist ns=l.length:=by
 unfold nDist firstMet;rw[range_getD];obtain⟨a,b⟩:=dd_all ns [] List.nodup_nil;refine len_eq_mem a h fun x=>?_;rw[b x,e x];simp
section
variable{H H' H3:Hp}{md t sp qn qe q:Addr}{ve:V}{f m:Int}{pc:Nat}{M:MT}{ss:Spots}{lsN lsE ls:List Addr}{R:MRows}
end
section
variable{prog:Program}{w:World}{A:Around}{E:Value->Shared->Prop}{s:Shared}
end
section
variable{X:Cx}
end
end SW
set_option maxHeartbeats 4000000
namespace SW
open PySem PySem.Spec PyProof.Rows L2
noncomputable def rowE(r:MRow):PyData:=.tuple (r.map fun p=>.tuple [.int p.1,.int p.2])
noncomputable def elE:Option MRows->PyData
 | none=>.none
 | some E=>.tuple (E.map rowE)
noncomputable def stE(M:MT):PyData:=.tuple [elE M.el,.int (M.mv:Nat),.tuple (M.nw.map rowE)]
theorem RowU.dat{K:W.Frag}{H:Hp}{v:V}{r:MRow}(h:RowU H v r):DatV K H v (rowE r):=by
 obtain⟨b,ys,rfl,hb,p⟩:=h;exact .tup (SqT.of hb) p.dat
theorem rowsU_dat{K:W.Frag}{H:Hp}:∀{xs:List V}{R:MRows},Paired (RowU H) xs R->DatVs K H xs (R.map rowE)
 | _,_,.nil=>.nil
 | _,_,.cons h t=>.cons h.dat (rowsU_dat t)
theorem RowsU.dat{K:W.Frag}{H:Hp}{v:V}{R:MRows}(h:RowsU H v R):DatV K H v (.tuple (R.map rowE)):=by
 obtain⟨b,ys,rfl,hb,p⟩:=h;exact .tup (SqT.of hb) (rowsU_dat p)
theorem StU.dat{K:W.Frag}{H:Hp}{v:V}{M:MT}(h:StU H v M):DatV K H v (stE M):=by
 obtain⟨a,e,w,rfl,ha,he,hw⟩:=h;refine .tup (SqT.of ha) (.cons ?_ (.cons (.int _) (.cons hw.dat .nil)));cases z:M.el with
 | none=>rw[z]at he;rw[show e=.non from he];exact .non
 | some E=>rw[z]at he;exact RowsU.dat he
theorem rows_lay:∀ R:MRows,PyData.canLayAll0 (R.map rowE)=true
 | []=>rfl
 | r::R=>by
   show(PyData.canLayAll0 (r.map fun p=>PyData.tuple [.int p.1,.int p.2]) && PyData.canLayAll0 (R.map rowE))=true;rw[pairs_lay,rows_lay]
   rfl
theorem rows_deep(R:MRows):PyData.depthAll (R.map rowE)<=2:=by
 induction R with
 | nil=>decide
 | cons r R ih=>
   have:=pairs_deep r;simp only[List.map_cons,PyData.depthAll,rowE,PyData.depth];omega
theorem stE_lay(M:MT):(stE M).canLay0=true:=by
 show((elE M.el).canLay0 && (true && (PyData.canLayAll0 (M.nw.map rowE) && true)))=true;rw[rows_lay];cases M.el with
 | none=>rfl
 | some E=>show(PyData.canLayAll0 (E.map rowE) && (true && (true && true)))=true;rw[rows_lay];rfl
theorem stE_deep(M:MT):(stE M).depth<=60:=by
 have h:=rows_deep M.nw;have h2:(elE M.el).depth<=3:=by
  cases M.el with
  | none=>simp only[elE,PyData.depth];omega
  | some E=>have:=rows_deep E;simp only[elE,PyData.depth];omega
 simp only[stE,PyData.depth,PyData.depthAll];omega
theorem wEqSt{K:W.Frag}{H:Hp}{Q:VK}{x y:V}{M:MT}(h1:StU H x M)(h2:StU H y M)(q:Q (.bl true) H):rEqD K x y H Q:=wEqSame h1.dat h2.dat (stE_lay M) (stE_deep M) q
end SW
set_option maxHeartbeats 4000000
namespace SW
open PySem PySem.Spec PyProof.Rows L2
noncomputable def Rat(M:MT):Prop:=∀ E,M.el=some E->E.length=2*M.nw.length∨M.nw.length=2*E.length
theorem has_nodup:∀ ns:List Int,∃ l:List Int,l.Nodup /\ ∀ x,x∈l ↔ x∈ns
 | []=>⟨[],List.nodup_nil,fun _=>Iff.rfl⟩
 | n::ns=>by
   obtain⟨l,h1,h2⟩:=has_nodup ns;by_cases z:n∈l
   · exact⟨l,h1,fun x=>⟨fun y=>List.mem_cons_of_mem _ ((h2 x).mp y),fun y=>(List.mem_cons.mp y).elim (fun e=>e ▸ z) fun y=>(h2 x).mpr y⟩⟩
   exact⟨n::l,List.nodup_cons.mpr ⟨z,h1⟩,fun x=>by rw[List.mem_cons,List.mem_cons,h2]⟩
theorem nDist_sub{ns l:List Int}(h:∀ x∈ns,x∈l):nDist ns<=l.length:=by
 obtain⟨q,h1,h2⟩:=has_nodup ns;rw[nDist_len h1 h2];exact len_le_sub h1 fun x hx=>h x ((h2 x).mp hx)
noncomputable def covs(e n:Nat):Nat->Nat->List Int
 | _,0=>[]
 | i,c+1=>((i % n:Nat):Int)::(((i+e) % n:Nat):Int)::covs e n (i+1) c
theorem covs_len(e n:Nat):∀(c i:Nat),(covs e n i c).length=2*c
 | 0,_=>rfl
 | c+1,i=>by
   show(covs e n (i+1) c).length+1+1=_;rw[covs_len e n c];omega
theorem plc_half{f m:Int}{e n i:Nat}{k:Int}(n0:0 < n)(e0:0 < e)(h:e=2*n∨n=2*e)(hi:plc f m e k=i):plc f m n k=i % n∨plc f m n k=(i+e) % n:=by
 obtain⟨μ,hμ⟩:∃ μ:Nat,((k*f+m) % 65536)=(μ:Int):=⟨((k*f+m) % 65536).toNat,by have:=Int.emod_nonneg (k*f+m) (show(65536:Int)≠0 by decide);omega⟩
 have pe:∀ q:Nat,plc f m q k=μ % q:=fun q=>by
  unfold plc;rw[hμ,← Int.natCast_emod]
  rfl
 rw[pe]at hi ⊢;rcases h with rfl | rfl
 · left
   rw[← hi,Nat.mod_mod_of_dvd _ ⟨2,Nat.mul_comm _ _⟩]
 rw[← hi];have hd:=Nat.div_add_mod μ e;have hlt:=Nat.mod_lt μ e0;rcases Nat.mod_two_eq_zero_or_one (μ / e)with z | z
 · left
   have hq:=Nat.div_add_mod (μ / e) 2;have e1:μ=μ % e+2*e*(μ / e / 2):=by
    rw[z]at hq;have:e*(μ / e)=2*e*(μ / e / 2):=by
     conv=>lhs;rw[← hq]
     rw[Nat.add_zero,← Nat.mul_assoc,Nat.mul_comm e 2]
    omega
   conv=>lhs;rw[e1]
   rw[Nat.add_mul_mod_self_left]
 right
 have hq:=Nat.div_add_mod (μ / e) 2;have e1:μ=(μ % e+e)+2*e*(μ / e / 2):=by
  rw[z]at hq;have:e*(μ / e)=2*e*(μ / e / 2)+e:=by
   conv=>lhs;rw[← hq]
   rw[Nat.mul_add,Nat.mul_one,← Nat.mul_assoc,Nat.mul_comm e 2]
  omega
 conv=>lhs;rw[e1]
 rw[Nat.add_mul_mod_self_left]
theorem reach_covs{f m:Int}{E:MRows}{n:Nat}(P:POk f m E)(n0:0 < n)(h:E.length=2*n∨n=2*E.length):∀(c i:Nat),i+c<=E.length -> ∀ x∈reach f m n E i c,x∈covs E.length n i c
 | 0,_,_,_,hx=>hx
 | c+1,i,hi,x,hx=>by
   have hx:x∈((E.getD i []).map fun p=>((plc f m n p.1:Nat):Int))++reach f m n E (i+1) c:=hx;rcases List.mem_append.mp hx with hx | hx
   · obtain⟨p,hp,rfl⟩:=List.mem_map.mp hx
     have hr:=P.at_ i _ p (getD_get (by omega)) hp
     show _∈((i % n:Nat):Int)::(((i+E.length) % n:Nat):Int)::_;rcases plc_half n0 (by omega) h hr with z | z
     · rw[z];exact List.mem_cons_self ..
     rw[z];exact List.mem_cons_of_mem _ (List.mem_cons_self ..)
   exact List.mem_cons_of_mem _ (List.mem_cons_of_mem _ (reach_covs P n0 h c (i+1) (by omega) x hx))
theorem tch_le{f m:Int}{pc:Nat}{M:MT}{k:Int}(T:TOk f m M)(R:Rat M):tch f m pc M k<=3*pc+2:=by
 rw[tch_eq];have h2:(if standsE f m (goOn f m pc M) k=true then 1 else 0)<=1:=by split <;> omega
 generalize (if standsE f m (goOn f m pc M) k=true then 1 else 0)=z at *;cases e:M.el with
 | none=>
   have hd:due pc M=0:=by unfold due;rw[e]
   have hr:rch f m M (due pc M)=[]:=by unfold rch;rw[e]
   have h1:=nDist_le [((plc f m M.nw.length k:Nat):Int)];rw[hr,hd];have h1:nDist [((plc f m M.nw.length k:Nat):Int)]<=1:=h1;omega
 | some E=>
   obtain⟨P,sE,hm,_,_⟩:=T.el E e;have hdl:=due_le (pc:=pc) e hm;have hdp:due pc M<=pc:=by
    unfold due;rw[e];show min (M.mv+pc) E.length - M.mv<=pc;omega
   have hr:rch f m M (due pc M)=reach f m M.nw.length E M.mv (due pc M):=by unfold rch;rw[e]
   rw[hr];have:=nDist_sub (ns:=((plc f m M.nw.length k:Nat):Int)::reach f m M.nw.length E M.mv (due pc M)) (l:=((plc f m M.nw.length k:Nat):Int)::covs E.length M.nw.length M.mv (due pc M)) fun x hx=>by
    rcases List.mem_cons.mp hx with rfl | hx
    · exact List.mem_cons_self ..
    exact List.mem_cons_of_mem _ (reach_covs P T.sz.pos (R E e) _ _ hdl x hx)
   rw[List.length_cons,covs_len]at this;omega
noncomputable def goS(p:Nat):Option Nat×Nat×Nat->Option Nat×Nat×Nat
 | (none,mv,n)=>(none,mv,n)
 | (some e,mv,n)=>if e<=mv+p then(none,0,n)else(some e,mv+p,n)
noncomputable def wantN(n c:Nat):Nat:=if n < c then min (n*2) 4096 else if c*8 < n then max (n / 2) 4 else n
noncomputable def begS(c:Nat):Option Nat×Nat×Nat->Option Nat×Nat×Nat
 | (some e,mv,n)=>(some e,mv,n)
 | (none,mv,n)=>if wantN n c=n then(none,mv,n)else(some n,mv,wantN n c)
theorem shp_goS{f m:Int}{p:Nat}{M:MT}(T:TOk f m M):shp (goOn f m p M)=goS p (shp M):=by
 cases e:M.el with
 | none=>
   have a:goOn f m p M=M:=by unfold goOn;rw[e]
   rw[a];unfold shp;rw[e]
   rfl
 | some E=>
   have hm:=(T.el E e).2.2.1;have hd:due p M=min (M.mv+p) E.length - M.mv:=by unfold due;rw[e]
   have hs:shp M=(some E.length,M.mv,M.nw.length):=by unfold shp;rw[e];rfl
   rw[hs];by_cases z:M.mv+due p M=E.length
   · have a:goOn f m p M=⟨none,0,(moves f m E M.nw M.mv (due p M)).2⟩:=by unfold goOn;rw[e];exact if_pos z
     rw[a];show(none,0,(moves f m E M.nw M.mv (due p M)).2.length)=if E.length<=M.mv+p then _ else _;rw[moves_len2,if_pos (by omega)]
   have a:goOn f m p M=⟨some (moves f m E M.nw M.mv (due p M)).1,M.mv+due p M,(moves f m E M.nw M.mv (due p M)).2⟩:=by unfold goOn;rw[e];exact if_neg z
   rw[a];show(some (moves f m E M.nw M.mv (due p M)).1.length,M.mv+due p M,(moves f m E M.nw M.mv (due p M)).2.length)=if E.length<=M.mv+p then _ else _;rw[moves_len1,moves_len2,if_neg (by omega),show due p M=p by omega]
theorem shp_begS{M:MT}:shp (beg M)=begS (cnt M) (shp M):=by
 cases e:M.el with
 | some E=>
   have a:beg M=M:=by unfold beg;rw[e]
   rw[a];unfold shp;rw[e]
   rfl
 | none=>
   have hs:shp M=(none,M.mv,M.nw.length):=by unfold shp;rw[e];rfl
   have hc:cnt M=tot M.nw:=by unfold cnt;rw[e];exact Nat.zero_add _
   have hb:beg M=if want M.nw=M.nw.length then M else⟨some M.nw,M.mv,List.replicate (want M.nw) []⟩:=by unfold beg;rw[e]
   rw[hs,hc,hb];show _=if wantN M.nw.length (tot M.nw)=M.nw.length then _ else _;have ew:want M.nw=wantN M.nw.length (tot M.nw):=rfl;rw[ew];split
   · exact hs
   show(some M.nw.length,M.mv,(List.replicate (wantN M.nw.length (tot M.nw)) ([]:MRow)).length)=_;rw[List.length_replicate]
noncomputable def deedS(p c:Nat)(s:Option Nat×Nat×Nat):Option Nat×Nat×Nat:=begS c (goS p s)
theorem shp_deedS{f m:Int}{p:Nat}{M:MT}(T:TOk f m M)(d:Deed):shp (deedM f m p M d)=deedS p (cnt (deedM f m p M d)) (shp M):=by
 obtain⟨T1,_,_⟩:=goOn_ok (pc:=p) T;unfold deedS;rw[← shp_goS T];cases d with
 | put k v=>
   have c:=(beg_ok (putAt_ok (k:=k) (v:=v) T1).1).2.2;show shp (beg (SW.putAt f m (goOn f m p M) k v))=begS (cnt (beg (SW.putAt f m (goOn f m p M) k v))) _;rw[c,shp_begS,shp_put]
 | look k=>
   have c:=(beg_ok T1).2.2;show shp (beg (goOn f m p M))=begS (cnt (beg (goOn f m p M))) _;rw[c,shp_begS]
 | cut k=>
   have c:=(beg_ok (cutAt_ok (k:=k) T1).1).2.2;show shp (beg (cutAt f m (goOn f m p M) k))=begS (cnt (beg (cutAt f m (goOn f m p M) k))) _;rw[c,shp_begS,shp_cut]
theorem size_cases{n:Nat}(h:isSize n):n=4∨n=8∨n=16∨n=32∨n=64∨n=128∨n=256∨n=512∨n=1024∨n=2048∨n=4096:=by
 unfold isSize at h
 simpa only[List.mem_cons,List.not_mem_nil,or_false] using h
theorem wantN_cases{n c:Nat}(h:isSize n):wantN n c=n∨wantN n c=2*n∨2*wantN n c=n:=by
 have sc:=size_cases h;unfold wantN;split
 · omega
 split <;> omega
theorem Rat.deed{f m:Int}{p:Nat}{M:MT}(T:TOk f m M)(R:Rat M)(d:Deed):Rat (deedM f m p M d):=by
 have h:=shp_deedS (p:=p) T d;intro E' e';generalize cnt (deedM f m p M d)=c at h;have hl:shp (deedM f m p M d)=(some E'.length,(deedM f m p M d).mv,(deedM f m p M d).nw.length):=by unfold shp;rw[e'];rfl
 rw[hl]at h;have beg:∀ mv:Nat,(some E'.length,(deedM f m p M d).mv,(deedM f m p M d).nw.length)=begS c (none,mv,M.nw.length)->E'.length=2*(deedM f m p M d).nw.length∨(deedM f m p M d).nw.length=2*E'.length:=by
  intro mv h;have h:(some E'.length,(deedM f m p M d).mv,(deedM f m p M d).nw.length)=if wantN M.nw.length c=M.nw.length then(none,mv,M.nw.length)else(some M.nw.length,mv,wantN M.nw.length c):=h;split at h
  · injection h with h;cases h
  rename_i z;injection h with h1 h;injection h with h2 h3;injection h1 with h1;rw[h1,h3];rcases wantN_cases (c:=c) T.sz with w | w | w
  · exact absurd w z
  · exact .inr w
  exact .inl w.symm
 cases e:M.el with
 | none=>
   have hM:shp M=(none,M.mv,M.nw.length):=by unfold shp;rw[e];rfl
   rw[hM]at h;exact beg M.mv h
 | some E=>
   have hM:shp M=(some E.length,M.mv,M.nw.length):=by unfold shp;rw[e];rfl
   rw[hM]at h;have h:_=begS c (if E.length<=M.mv+p then(none,0,M.nw.length)else(some E.length,M.mv+p,M.nw.length)):=h;split at h
   · exact beg 0 h
   have h:_=(some E.length,M.mv+p,M.nw.length):=h;injection h with h1 h;injection h with h2 h3;injection h1 with h1;rw[h1,h3];exact R E e
theorem list_no_keys:typeLookup (.type "list") "keys"=pure none:=by rw[typeLookup_type,builtinLookup_eq_fast];kernel_rfl
theorem list_no_getattr:typeLookup (.type "list") "__getattr__"=pure none:=by rw[typeLookup_type,builtinLookup_eq_fast];kernel_rfl
theorem list_getattribute_entry:entryFor table "list.__getattribute__"=some Builtin.«object.__getattribute__»:=
 entryFor_alias (id':="object.__getattribute__") (by kernel_rfl) (by decide +kernel) (by decide +kernel) (by kernel_rfl)
theorem keys_of_list{prog:Program}{w:World}{A:Around}{E:Value->Shared->Prop}{s:Shared}{l:Addr}{o:Obj}{xs:Array Value}{n:Nat}{Q:Option Value->Shared->Prop}(ho:s.heap.get? l=some o)(hc:o.cls=.type "list")(hd:o.data=.seq xs n)(hn:o.dict=none)(hA:A.handled=none)
 (h:∀ h' tk,(∀ b ob,s.heap.get? b=some ob->h'.get? b=some ob)->Q none { s with heap:=h',toks:=tk }):wpAny (model prog w) A (getAttr? (.ref l) "keys") Q E s:=by
 obtain⟨hp,g,d,tk,os⟩:=s;obtain⟨oc,od,odt,osl⟩:=o;obtain rfl:oc=.type "list":=hc;obtain rfl:odt=.seq xs n:=hd;obtain rfl:od=none:=hn;have ho:hp.get? l=some { cls:=.type "list",data:=.seq xs n,slots:=osl }:=ho;have f1:=sub_AttributeError;have f3:=F.slot_list_getattribute.lookup;have f4:=F.slot_list_getattribute.bind (.ref l);have f5:=list_no_getattr;have hT:∀ tk,Shared.TypeIs { heap:=hp,gens:=g,drawn:=d,toks:=tk,os:=os } (.ref l) "list":=fun _=>⟨_,ho,rfl⟩;unfold getAttr? getAttrBy? getAttrBy
 repeat (any_goals (first
  | assumption
  | ((with_reducible show wpAny _ _ (call (Value.builtin "list.__getattribute__") _ _) _ _ _)
     refine call_meets F.slot_list_getattribute ⟨_,ho,rfl⟩ list_getattribute_entry (F.args_list_getattribute_2 _ _) (meets_getattribute_miss_list l xs n osl "keys" _ list_no_keys (by decide +kernel)) ⟨ho,hA,fun h' tk' e hx=>?_⟩)
  | wp_step))
 obtain⟨t1,u1,he⟩:=hx.there;show wpAny (model prog w) A (getattributeRaised _ _ _ _ _ _ _) _ _ _;unfold getattributeRaised
 repeat (any_goals (first
  | assumption
  | wp_step))
 exact h _ _ hx.keeps
theorem dloop_entry:entryFor table "dict.update.loop"=some Builtin.«dict.update.loop»:=entryFor_of_tree (by kernel_rfl)
theorem dloop{prog:Program}{w:World}{A:Around}{R:Result->Shared->Prop}(hA:A.handled=none){d it l:Addr}{ps:List (Addr×Key×Value×Value)}(hdi:d≠it)(hld:l≠d)(hli:l≠it)(hsz:ps.length<=100000) :
 ∀(c i:Nat) (s:Shared) (t:Tok) (kvs:List (Key×Value)),i+c=ps.length->s.heap.IsList l (ps.map fun p=>Value.ref p.1).toArray->s.heap.IsListIter it l i ->
   (∀ p∈ps,s.heap.IsTuple p.1 #[p.2.2.1,p.2.2.2]/\(mixKind prog w).is p.2.1 p.2.2.1=true/\p.1≠d/\p.1≠it)->s.heap.DictOf (mixKind prog w) d kvs->kvs.length<=i ->
   (∀ h' tk,(∀ b o,b≠d->b≠it->s.heap.get? b=some o->h'.get? b=some o)->h'.DictOf (mixKind prog w) d ((ps.drop i).foldl (fun kv p=>stored kv p.2.1 p.2.2.2) kvs)->R (.ok (.ret .none)) { s with heap:=h',toks:=tk }) ->
   codeAny (model prog w) A (.builtin "dict.update.loop" ⟨[.ref d,.ref it,.int i t,.none],[]⟩) R s
 | 0,i,s,t,kvs,hic,hl,hit,hps,hd,hk,k=>by
   refine codeAny_builtin dloop_entry ?_;show wpAny _ _ (pyNext (.ref it) >>= _) _ _ s;refine wpAny_bind (wpAny_pyNext_list_end ?_ hit hl ?_ fun h' hx=>?_)
   · exact hA
   · simp;omega
   show wpAny _ _ (Builtin.Dict.addKeywords d [] >>= _) _ _ _;refine wpAny_bind (wpAny_pure (wpAny_pure ?_));refine k h' s.toks (fun b o n1 n2 e=>hx _ _ n2 e) ?_;rw[List.drop_eq_nil_of_le (by omega)]
   obtain⟨o,es,ep,e1,r⟩:=hd;exact⟨o,es,ep,hx _ _ hdi e1,r⟩
 | c+1,i,s,t,kvs,hic,hl,hit,hps,hd,hk,k=>by
   refine codeAny_builtin dloop_entry ?_;show wpAny _ _ (pyNext (.ref it) >>= _) _ _ s;obtain⟨p,hp⟩:∃ p,ps[i]?=some p:=⟨ps[i]'(by omega),List.getElem?_eq_getElem (by omega)⟩
   refine wpAny_bind (wpAny_pyNext_list_item hit hl (x:=.ref p.1) (by simp[hp]) fun h1 hit1 hs1=>?_)
   obtain⟨⟨ot,hto,htc,n,htd⟩,hkey,npd,npi⟩:=hps p (List.mem_of_getElem? hp);have hto1:h1.get? p.1=some ot:=(hs1.2 _ npi).trans hto;show wpAny _ _ (holding _ _ >>= _) _ _ _;refine wpAny_bind (wpAny_holding ?_);refine wpAny_bind (wpAny_tryCatch ?_);unfold Builtin.Dict.pairItems;refine wpAny_bind (wpAny_typeOf ⟨ot,hto1,htc⟩ ?_);rw[if_pos (by decide)]
   refine wpAny_bind ?_;unfold seqItems?;refine wpAny_bind (wpAny_load (s:={ s with heap:=h1 }) hto1 ?_);rw[htd];refine wpAny_pure (wpAny_pure ?_);show wpAny _ _ (holding _ (dictSet d p.2.2.1 p.2.2.2)) _ _ _;have hd1:h1.DictOf (mixKind prog w) d kvs:=hd.sameBut hs1 hdi;refine wpAny_holding (wpAny_dictSet_pairs (hsz:=by rw[sizeLine_eq];omega) hkey hd1 fun h2 hd2 hs2=>?_)
   refine wpAny_pure ⟨by kernel_rfl,?_⟩
   refine dloop hA hdi hld hli hsz c (i+1) _ _ _ (by omega) ?_ ?_ (fun q hq=>?_) hd2 ?_ fun h' tk g1 g2=>?_
   · obtain⟨o,e1,e2⟩:=hl
     exact⟨o,(hs2.2 _ hld).trans ((hs1.2 _ hli).trans e1),e2⟩
   · obtain⟨o,e1,e2⟩:=hit1
     exact⟨o,(hs2.2 _ hdi.symm).trans e1,e2⟩
   · obtain⟨⟨o,e1,e2⟩,r⟩:=hps q hq
     exact⟨⟨o,(hs2.2 _ r.2.1).trans ((hs1.2 _ r.2.2).trans e1),e2⟩,r⟩
   · unfold stored
     split
     · rw[List.length_map];omega
     rw[List.length_append];exact Nat.succ_le_succ hk
   refine k h' tk (fun b o n1 n2 e=>g1 b o n1 n2 ((hs2.2 _ n1).trans ((hs1.2 _ n2).trans e))) ?_;rw[List.drop_eq_getElem_cons (show i < ps.length by omega),List.foldl_cons,(List.getElem?_eq_some_iff.mp hp).2]
   exact g2
theorem call_dict_pairs{prog:Program}{w:World}{A:Around}{E:Value->Shared->Prop}{s:Shared}{l:Addr}{o:Obj}{n:Nat}{ps:List (Addr×Key×Value×Value)}{Q:Value->Shared->Prop}(hA:A.handled=none)
 (ho:s.heap.get? l=some o) (hc:o.cls=.type "list") (hd:o.data=.seq (ps.map fun p=>Value.ref p.1).toArray n) (hn:o.dict=none) (hsz:ps.length<=100000)
 (hps:∀ p∈ps,s.heap.IsTuple p.1 #[p.2.2.1,p.2.2.2]/\(mixKind prog w).is p.2.1 p.2.2.1=true)
 (h:∀ h' tk,(∀ b ob,s.heap.get? b=some ob->h'.get? b=some ob)->h'.DictOf (mixKind prog w) s.heap.objs.size (ps.foldl (fun kv p=>stored kv p.2.1 p.2.2.2) [])->Q (.ref s.heap.objs.size) { s with heap:=h',toks:=tk }) :
 wpAny (model prog w) A (call (.type "dict") [.ref l]) Q E s:=by
 refine callType_codes (Q₁:=fun obj s₁=>obj=.ref s.heap.objs.size/\s₁={ s with heap:=s.heap.push { cls:=.type "dict",data:=.dict #[] } }) F.kt_called_dict (F.kt_typeCall_dict_1 _) F.entry_dict_init (kt_code_dict_new _ ⟨rfl,rfl⟩) ?_;rintro obj s₁ ⟨rfl,rfl⟩;have hnew:(s.heap.push { cls:=.type "dict",data:=.dict #[] }).DictOf (mixKind prog w) s.heap.objs.size []:=Heap.DictOf.new s.heap;have ho1:(s.heap.push { cls:=.type "dict",data:=.dict #[] }).get? l=some o:=Heap.get?_push_of_some _ ho;have hll:l < s.heap.objs.size:=Heap.lt_size ho;refine⟨hnew.typeIs,F.args_dict_init_2 _ _,?_⟩;unfold Builtin.«dict.__init__»;refine wpAny_bind ?_;unfold Builtin.Dict.selfAndRest;refine wpAny_bind (wpAny_notOrdered_dict hnew.typeIs ?_);show wpAny _ _ (pure (s.heap.objs.size,[Value.ref l])) _ _ _;refine wpAny_pure ?_;show wpAny _ _ (Builtin.Dict.updateFrom "dict.__init__" s.heap.objs.size (.ref l) [] .none) _ _ _;unfold Builtin.Dict.updateFrom;refine wpAny_bind (wpAny_typeOf (T:="list") ⟨o,ho1,hc⟩ ?_);rw[if_pos (by decide)]
 refine wpAny_bind (keys_of_list (s:={ s with heap:=s.heap.push { cls:=.type "dict",data:=.dict #[] } }) ho1 hc hd hn hA fun h1 tk1 k1=>?_);rw[if_pos (by rfl)]
 refine wpAny_bind (wpAny_rule ?_);have ho2:h1.get? l=some o:=k1 _ _ ho1;have hl2:h1.IsList l (ps.map fun p=>Value.ref p.1).toArray:=⟨o,ho2,hc,n,hd⟩;refine wpAny_bind (wpAny_pyIter_list (s:={ s with heap:=h1,toks:=tk1 }) hl2 ?_);have hsz1:s.heap.objs.size < h1.objs.size:=by
  obtain⟨q,_,_,hq,_⟩:=hnew;exact Heap.lt_size (k1 _ _ hq)
 refine wpAny_pure ⟨by kernel_rfl,?_⟩
 refine dloop (A:=A.in1) (l:=l) (ps:=ps) hA (Nat.ne_of_lt hsz1) (Nat.ne_of_lt hll) (Nat.ne_of_lt (Nat.lt_trans hll hsz1)) hsz ps.length 0 { s with heap:=h1.push { cls:=.type "list_iterator",data:=.fields #[.ref l,.int 0 0] },toks:=tk1 } _ [] (by omega) ⟨o,Heap.get?_push_of_some _ ho2,hc,n,hd⟩ ⟨{ cls:=.type "list_iterator",data:=.fields #[.ref l,.int 0 0] },Heap.get?_push_size _ rfl,rfl,rfl⟩ (fun p hp=>?_) ?_ (Nat.le_refl _) fun h' tk g1 g2=>?_
 · obtain⟨⟨ot,e1,e2⟩,e3⟩:=hps p hp
   have:=Heap.lt_size e1;exact⟨⟨ot,Heap.get?_push_of_some _ (k1 _ _ (Heap.get?_push_of_some _ e1)),e2⟩,e3,Nat.ne_of_lt this,Nat.ne_of_lt (Nat.lt_trans this hsz1)⟩
 · obtain⟨q,es,ep,hq,r⟩:=hnew
   exact⟨q,es,ep,Heap.get?_push_of_some _ (k1 _ _ hq),r⟩
 refine⟨rfl,h h' tk (fun b ob e=>?_) g2⟩;have hb:=Heap.lt_size e;exact g1 b ob (Nat.ne_of_lt hb) (Nat.ne_of_lt (Nat.lt_trans hb hsz1)) (Heap.get?_push_of_some _ (k1 _ _ (Heap.get?_push_of_some _ e)))
noncomputable def dictP(ps:List (Int×V)):List (Key×V):=ps.foldl (fun kv p=>putK kv (.inl p.1) p.2) []
theorem putP_len(ps:List (Int×V)):∀ kv:List (Key×V),(ps.foldl (fun kv p=>putK kv (.inl p.1) p.2) kv).length<=kv.length+ps.length:=by
 induction ps with
 | nil=>intro kv;simp
 | cons p r ih=>
   intro kv;have h1:=ih (putK kv (.inl p.1) p.2);have h2:=length_putK kv (.inl p.1) p.2;simp only[List.foldl_cons,List.length_cons];omega
theorem dictP_rel:∀{ps:List (Addr×Int×V)}{zs:List (Addr×Key×Value×Value)},Paired (fun(p:Addr×Int×V) (z:Addr×Key×Value×Value)=>z.1=p.1/\z.2.1=.inl p.2.1/\RelV p.2.2 z.2.2.2) ps zs -> ∀{kv:List (Key×V)}{vs:List (Key×Value)},KV kv vs ->
 KV ((ps.map fun p=>(p.2.1,p.2.2)).foldl (fun kv p=>putK kv (.inl p.1) p.2) kv) (zs.foldl (fun kv p=>stored kv p.2.1 p.2.2.2) vs)
 | _,_,.nil,_,_,r=>r
 | _,_,.cons (a:=p) (b:=z) e t,_,_,r=>by
   simp only[List.map_cons,List.foldl_cons];rw[e.2.1];exact dictP_rel t (r.put _ e.2.2)
theorem call_dictP{X:Cx}(hc:X.calm=true:=by rfl):CallR X (.type "dict") (fun xs H Q=>∃(a:Addr) (ps:List (Addr×Int×V)),xs=[.ref a]/\SqL X.K H a (ps.map fun p=>.ref p.1)/\(∀ p∈ps,SqT X.K H p.1 [.int p.2.1,p.2.2])/\ps.length<=100000 /\
 ∀ d,H d=none->Q (.ref d) (upd H d (.dK (dictP (ps.map fun p=>(p.2.1,p.2.2)))))):=by
 intro pins s σ H xs us Q I r h;obtain⟨a,ps,rfl,ha,hp,hz,q⟩:=h;obtain⟨u,rfl,rx⟩:=vals1 r;cases rx;obtain⟨its,rv,⟨o,n,e1,e2,e3,e4⟩,_⟩:=I.list ha;have key:∀(ps:List (Addr×Int×V)) (its:List Value),Vals (ps.map fun p=>V.ref p.1) its->(∀ p∈ps,SqT X.K H p.1 [.int p.2.1,p.2.2]) -> ∃ zs:List (Addr×Key×Value×Value),zs.length=ps.length/\its=zs.map (fun z=>Value.ref z.1) /\
  Paired (fun(p:Addr×Int×V) (z:Addr×Key×Value×Value)=>z.1=p.1/\z.2.1=.inl p.2.1/\RelV p.2.2 z.2.2.2) ps zs /\ ∀ z∈zs,s.heap.IsTuple z.1 #[z.2.2.1,z.2.2.2]/\(mixKind X.prog X.w).is z.2.1 z.2.2.1=true:=by
  intro ps
  induction ps with
  | nil=>intro its rv _;cases rv;exact⟨[],rfl,rfl,.nil,fun z hz=>nomatch hz⟩
  | cons p r ih=>
    intro its rv hp;cases rv with
    | cons r1 t1=>
      cases r1;obtain⟨zs,l1,l2,l3,l4⟩:=ih _ t1 fun q hq=>hp q (List.mem_cons_of_mem _ hq);obtain⟨its2,w1,w2,_⟩:=I.tuple (hp p List.mem_cons_self);cases w1 with
      | cons a1 w1=>
        cases w1 with
        | cons a2 w1=>
          cases w1;obtain⟨t,rfl⟩:=a1;refine⟨(p.1,.inl p.2.1,.int p.2.1 t,_)::zs,by simp[l1],by rw[List.map_cons,l2],.cons ⟨rfl,rfl,a2⟩ l3,fun z hz=>?_⟩
          rcases List.mem_cons.mp hz with rfl | hz
          · exact⟨w2,mixKind_int _ _ _ _⟩
          exact l4 z hz
 obtain⟨zs,l1,l2,l3,l4⟩:=key ps its rv hp;subst l2;refine call_dict_pairs (I.ok.hd hc) e1 e2 e4 e3 (by omega) l4 fun h' tk hk hd'=>?_
 refine⟨.ref s.heap.objs.size,_,I.laid (a:=s.heap.objs.size) (o:=.dK (dictP (ps.map fun p:Addr×Int×V=>(p.2.1,p.2.2)))) (t':=tk) hk (Nat.le_refl _) (dk_new ?_ (beq_eq_false_iff_ne.mpr (Ne.symm (Nat.ne_of_lt I.big))) (dictP_rel l3 .nil) hd'),rfl,q _ (I.hok.fresh (Nat.le_refl _))⟩;have:=putP_len (ps.map fun p=>(p.2.1,p.2.2)) [];unfold dictP;rw[List.length_map,List.length_nil]at this;rw[sizeLine_eq];omega
noncomputable def staOf(M:MT):Sta:=⟨M.el,(M.mv:Int),M.nw⟩
theorem StU.stv{H:Hp}{v:V}{M:MT}(h:StU H v M):StV H v (staOf M):=by
 obtain⟨a,e,w,rfl,ha,he,hw⟩:=h;refine⟨a,e,w,rfl,ha,?_,hw⟩;show ElV H e M.el
 revert he
 cases M.el with
 | none=>exact id
 | some E=>exact id
noncomputable def keyR(R:MRows):List Int:=R.flatMap fun r=>r.map (·.1)
theorem mem_keyR{R:MRows}{k:Int}:k∈keyR R ↔ ∃(i:Nat) (r:MRow) (p:Int×Int),R[i]?=some r/\p∈r/\p.1=k:=by
 unfold keyR;rw[List.mem_flatMap]
 constructor
 · rintro⟨r,hr,hk⟩
   obtain⟨p,hp,e⟩:=List.mem_map.mp hk;obtain⟨i,hi⟩:=List.getElem?_of_mem hr;exact⟨i,r,p,hi,hp,e⟩
 rintro⟨i,r,p,hi,hp,e⟩;exact⟨r,List.mem_of_getElem? hi,List.mem_map.mpr ⟨p,hp,e⟩⟩
theorem rLook_in{k v:Int}:∀{r:MRow},ROk r->(k,v)∈r->rLook r k=some v
 | [],_,h=>nomatch h
 | p::r,ok,h=>by
   have nd:p.1∉r.map (·.1)/\ROk r:=List.nodup_cons.mp ok;rcases List.mem_cons.mp h with e | e
   · subst e;exact rLook_pos rfl
   rw[rLook_neg fun z=>nd.1 (z ▸ List.mem_map.mpr ⟨_,e,rfl⟩)];exact rLook_in nd.2 e
theorem POk.look{f m:Int}{N:MRows}(P:POk f m N){i:Nat}{r:MRow}{p:Int×Int}(hr:N[i]?=some r)(hp:p∈r):sLook f m N p.1=some p.2:=by
 rw[sLook_getD,P.at_ i r p hr hp,List.getD_eq_getElem?_getD,hr];exact rLook_in (P.ok r (List.mem_of_getElem? hr)) hp
theorem POk.nodup{f m:Int}{N:MRows}(P:POk f m N):(keyR N).Nodup:=by
 unfold keyR List.Nodup;rw[List.pairwise_flatMap];refine⟨fun r hr=>P.ok r hr,List.pairwise_iff_getElem.mpr fun i j hi hj hij x hx y hy e=>?_⟩;obtain⟨p,hp,e1⟩:=List.mem_map.mp hx;obtain⟨q,hq,e2⟩:=List.mem_map.mp hy;have h1:=P.at_ i _ p (List.getElem?_eq_getElem hi) hp;have h2:=P.at_ j _ q (List.getElem?_eq_getElem hj) hq;rw[e1]at h1;rw[e2,← e]at h2;omega
theorem TOk.nodup{f m:Int}{M:MT}(T:TOk f m M):(keyR (M.el.getD [])++keyR M.nw).Nodup:=by
 cases e:M.el with
 | none=>exact T.nw.nodup
 | some E=>
   obtain⟨h1,h2,h3,h4,h5⟩:=T.el E e;refine List.nodup_append.mpr ⟨h1.nodup,T.nw.nodup,fun x hx y hy z=>?_⟩;obtain⟨i,r,p,hi,hp,e1⟩:=mem_keyR.mp hx;obtain⟨j,r',q,hj,hq,e2⟩:=mem_keyR.mp hy;have l1:=h1.look hi hp;have l2:=T.nw.look hj hq;have:=h5 p.1 (by rw[l1];simp)
   rw[e1,z,← e2,l2]at this;cases this
noncomputable def InPlc(f m mv:Int)(R:MRows):Prop:=∀(i:Nat) (r:MRow),R[i]?=some r -> ∀ x∈r,(x.1*f+m) % 65536 % (R.length:Int)=i /\ ¬ (i:Int) < mv
theorem POk.inplc{f m:Int}{N:MRows}(P:POk f m N):InPlc f m 0 N:=fun i r hr x hx=>by
 have hi:i < N.length:=(List.getElem?_eq_some_iff.mp hr).1;refine⟨?_,by omega⟩
 rw[← plc_int (by omega),P.at_ i r x hr hx]
theorem tripF_at{f m mv:Int}{R:MRows}(h:InPlc f m mv R)(sh:Bool):∀ t∈tripF sh 0 R,t.1=sh/\(t.2.2*f+m) % 65536 % (R.length:Int)=t.2.1 /\ ¬ (t.2.1:Int) < mv:=by
 have gen:∀(A:MRows) (i:Nat),(∀ j r,A[j]?=some r->R[i+j]?=some r) -> ∀ t∈tripF sh i A,t.1=sh/\(t.2.2*f+m) % 65536 % (R.length:Int)=t.2.1 /\ ¬ (t.2.1:Int) < mv:=by
  intro A
  induction A with
  | nil=>intro i _ t ht;cases ht
  | cons r A ih=>
    intro i hA t ht;rcases List.mem_append.mp (show t∈tripR sh i r++tripF sh (i+1) A from ht)with z | z
    · obtain⟨x,hx,rfl⟩:=List.mem_map.mp z
      exact⟨rfl,h i r (hA 0 r rfl) x hx⟩
    exact ih (i+1) (fun j r' e=>by have:=hA (j+1) r' e;rw[show i+1+j=i+(j+1) by omega];exact this) t z
 exact gen R 0 fun j r e=>by rw[Nat.zero_add];exact e
theorem tripF_key(sh:Bool):∀(R:MRows) (i:Nat),(tripF sh i R).map (·.2.2)=keyR R
 | [],_=>rfl
 | r::R,i=>by
   show(tripR sh i r++tripF sh (i+1) R).map (·.2.2)=r.map (·.1)++keyR R;rw[List.map_append,tripF_key sh R];unfold tripR;rw[List.map_map]
   rfl
theorem firstP_nil{f m:Int}{sz:Bool->Nat}{mv:Bool->Int}:∀(ts:List Trip) (ks:List Int),(∀ t∈ts,(t.2.2*f+m) % 65536 % (sz t.1:Int)=t.2.1 /\ ¬ (t.2.1:Int) < mv t.1)->(ks++ts.map (·.2.2)).Nodup->firstP f m sz mv ks ts=none
 | [],_,_,_=>rfl
 | (sh,i,k)::ts,ks,h,nd=>by
   have h0:=h (sh,i,k) (List.mem_cons_self ..);have h1:(k*f+m) % 65536 % (sz sh:Int)=i:=h0.1;have h2:¬ (i:Int) < mv sh:=h0.2;rw[firstP_cons,if_neg (fun z=>z h1),if_neg h2];have e:ks++((sh,i,k)::ts).map (·.2.2)=(ks++[k])++ts.map (·.2.2):=by rw[List.map_cons,List.append_assoc];rfl
   rw[e]at nd;have h3:k∉ks:=fun z=>by
    have nd2:=(List.nodup_append.mp nd).1;exact(List.nodup_append.mp nd2).2.2 k z k (List.mem_singleton.mpr rfl) rfl
   rw[if_neg h3];exact firstP_nil ts _ (fun t ht=>h t (List.mem_cons_of_mem _ ht)) nd
theorem TOk.trips{f m:Int}{M:MT}(T:TOk f m M):∀ t∈tripS (staOf M),(t.2.2*f+m) % 65536 % (szOf (staOf M) t.1:Int)=t.2.1 /\ ¬ (t.2.1:Int) < mvOf (staOf M) t.1:=by
 have he:InPlc f m M.mv (M.el.getD []):=by
  cases e:M.el with
  | none=>intro i r hr;cases hr
  | some E=>
    obtain⟨h1,h2,h3,h4,h5⟩:=T.el E e;intro i r hr x hx;refine⟨(h1.inplc i r hr x hx).1,fun z=>?_⟩;rw[h4 i r (by omega) hr]at hx
    cases hx
 intro t ht;rcases List.mem_append.mp (show t∈tripF true 0 (M.el.getD [])++tripF false 0 M.nw from ht)with z | z
 · obtain⟨e1,e2,e3⟩:=tripF_at he true t z
   rw[e1];exact⟨e2,e3⟩
 obtain⟨e1,e2,e3⟩:=tripF_at T.nw.inplc false t z;rw[e1];exact⟨e2,e3⟩
theorem TOk.sound{f m:Int}{M:MT}(T:TOk f m M)(R:Rat M):faultOf f m (staOf M)=none:=by
 have h1:rightP (staOf M)=true:=by
  unfold rightP;rw[Bool.and_eq_true];refine⟨decide_eq_true T.sz,?_⟩;show(match M.el with | none=>true | some E=>decide (isSize E.length) && (decide (E.length=2*M.nw.length) || decide (M.nw.length=2*E.length)))=true;cases e:M.el with
  | none=>rfl
  | some E=>
    show(decide (isSize E.length) && (decide (E.length=2*M.nw.length) || decide (M.nw.length=2*E.length)))=true;rw[Bool.and_eq_true,Bool.or_eq_true,decide_eq_true_iff,decide_eq_true_iff,decide_eq_true_iff];exact⟨(T.el E e).2.1,R E e⟩
 have h2:rightM (staOf M)=true:=by
  unfold rightM;rw[Bool.and_eq_true,decide_eq_true_iff,decide_eq_true_iff];refine⟨Int.natCast_nonneg _,?_⟩;show(M.mv:Int) < match M.el with | none=>1 | some E=>(E.length:Int);cases e:M.el with
  | none=>have:=T.no e;show(M.mv:Int) < 1;omega
  | some E=>have:=(T.el E e).2.2.1;show(M.mv:Int) < (E.length:Int);omega
 unfold faultOf;rw[if_neg (by rw[h1];intro z;cases z),if_neg (by rw[h2];intro z;cases z)]
 refine firstP_nil _ _ T.trips ?_;rw[List.nil_append];unfold tripS;rw[List.map_append,tripF_key,tripF_key];exact T.nodup
noncomputable def allP(M:MT):MRow:=(M.el.getD []).flatten++M.nw.flatten
theorem flatten_len(R:MRows):R.flatten.length=tot R:=List.length_flatten ..
theorem allP_len(M:MT):(allP M).length=cnt M:=by
 unfold allP cnt;rw[List.length_append,flatten_len,flatten_len];cases M.el with
 | none=>rfl
 | some E=>rfl
theorem flatten_key(R:MRows):R.flatten.map (·.1)=keyR R:=by
 unfold keyR;rw[List.map_flatten,List.flatMap_def]
theorem TOk.pairs{f m:Int}{M:MT}(T:TOk f m M):ROk (allP M):=by
 unfold allP;show((_++_:MRow).map (·.1)).Nodup;rw[List.map_append,flatten_key,flatten_key];exact T.nodup
theorem mem_flat{R:MRows}{p:Int×Int}:p∈R.flatten ↔ ∃(i:Nat) (r:MRow),R[i]?=some r/\p∈r:=by
 rw[List.mem_flatten]
 constructor
 · rintro⟨r,hr,hp⟩
   obtain⟨i,hi⟩:=List.getElem?_of_mem hr;exact⟨i,r,hi,hp⟩
 rintro⟨i,r,hi,hp⟩;exact⟨r,List.mem_of_getElem? hi,hp⟩
theorem TOk.tell{f m:Int}{M:MT}(T:TOk f m M){p:Int×Int}(h:p∈allP M):tLook f m M p.1=some p.2:=by
 unfold tLook onE;rcases List.mem_append.mp h with z | z
 · obtain⟨i,r,hi,hp⟩:=mem_flat.mp z
   cases e:M.el with
   | none=>rw[e]at hi;cases hi
   | some E=>
     rw[e]at hi;have:=(T.el E e).1.look hi hp;show(match sLook f m E p.1 with | some v=>some v | none=>sLook f m M.nw p.1)=_;rw[this]
 obtain⟨i,r,hi,hp⟩:=mem_flat.mp z;have l:=T.nw.look hi hp;cases e:M.el with
 | none=>exact l
 | some E=>
   show(match sLook f m E p.1 with | some v=>some v | none=>sLook f m M.nw p.1)=_;cases e2:sLook f m E p.1 with
   | none=>exact l
   | some v=>
     have:=(T.el E e).2.2.2.2 p.1 (by rw[e2];simp)
     rw[l]at this;cases this
noncomputable def InB(p:Int×Int):Prop:=(0<=p.1/\p.1<=1000000000) /\ -1000000000<=p.2/\p.2<=1000000000
theorem rLook_has{r:MRow}{k v:Int}(h:rLook r k=some v):(k,v)∈r:=by
 unfold rLook at h;cases e:r.find? fun p=>decide (p.1=k)with
 | none=>rw[e]at h;cases h
 | some p=>
   rw[e]at h;have h1:=List.find?_some e;have h2:=List.mem_of_find?_eq_some e;have h3:p.1=k:=of_decide_eq_true h1;have h4:p.2=v:=Option.some.inj h;rw[← h3,← h4];exact h2
theorem rowsD_ok{R:MRows}(h:∀ p∈R.flatten,InB p):areRowsD (rowsD R)=true:=by
 show(R.map rowD).all isRowD=true;rw[List.all_eq_true];intro d hd;obtain⟨r,hr,rfl⟩:=List.mem_map.mp hd;show(r.map fun q=>PyData.tuple [.int q.1,.int q.2]).all isPairD=true;rw[List.all_eq_true];intro d hd;obtain⟨p,hp,rfl⟩:=List.mem_map.mp hd;obtain⟨⟨a,b⟩,c,e⟩:=h p (List.mem_flatten.mpr ⟨r,hr,hp⟩);show(decide (0<=p.1) && decide (p.1<=1000000000) && (decide (-1000000000<=p.2) && decide (p.2<=1000000000)))=true;simp[a,b,c,e]
theorem stD_ok{M:MT}(h:∀ p∈allP M,InB p):isStateD (stD (staOf M))=true:=by
 have h1:=rowsD_ok (R:=M.nw) fun p hp=>h p (List.mem_append_right _ hp);show(isElD (elD M.el) && isWhD (.int (M.mv:Int)) && areRowsD (rowsD M.nw))=true;rw[h1,Bool.and_true];have h3:isWhD (.int (M.mv:Int))=true:=rfl;rw[h3,Bool.and_true];cases e:M.el with
 | none=>rfl
 | some E=>
   have h2:areRowsD (rowsD E)=true:=rowsD_ok fun p hp=>h p (List.mem_append_left _ (by rw[e];exact hp))
   exact h2
theorem putK_new{kv:List (Key×V)}{k:Key}{v:V}(h:∀ p∈kv,p.1≠k):putK kv k v=kv++[(k,v)]:=by
 unfold putK;rw[if_neg];intro z;obtain⟨p,hp,e⟩:=List.any_eq_true.mp z;exact h p hp (of_decide_eq_true e)
section
variable{X:Cx}
theorem ext_tup{l b:Addr}{us ws:Array Value}{n k:Nat}{od:Option Addr}{osl:Array (Option Value)}(h0:¬ (!us.isEmpty && Builtin.List.listTooLong (us.size+ws.size))=true)
 (h1:us.size<=sizeLine) (h2:(us++ws).size<=sizeLine+1):Meets (Builtin.«list.extend» ⟨[.ref l,.ref b],[]⟩) (fun _ R s=>
  s.heap.get? l=some { cls:=.type "list",data:=.seq us n } /\
  s.heap.get? b=some ⟨.type "tuple",od,.seq ws k,osl⟩ /\
  R (.ok (.ret .none)) { s with heap:=s.heap.update l (Obj.mapSeq fun x=>x++ws) }):=by
 refine Meets.of_wp fun prog w A R s h=>?_;obtain⟨hp,g,d,tk,os⟩:=s;obtain⟨ha,hb,h⟩:=h;have f1:=AutoSeq1.idx_int;have f2:=AutoSeq1.sub_tuple_tuple;have f3:=AutoSeq1.sub_list_list;have f4:=AutoSeq1.sub_tuple_list;have f5:=AutoSeq1.sub_list_tuple
 wp_walk using (wpAny_updateSeq ha rfl (hz:=h1) (_hz':=h2)),AutoSeq1.wpAny_loadPart' ha,AutoSeq1.wpAny_loadPart' hb
 exact⟨_,rfl,h⟩
noncomputable def rExtendT(K:W.Frag):V->List V->Hp->VK->Prop:=fun x vs H Q=>∃ l b xs zs,x=.ref l/\vs=[.ref b]/\H l=some (.lst xs)/\SqT K H b zs/\xs.length+zs.length<=sizeLine/\Q .non (upd H l (.lst (xs++zs)))
theorem mt_extendT:MtM X "list.extend" (rExtendT X.K):=by
 intro pins s σ H x vs v us Q I rx rv h;obtain⟨l,b,xs,zs,rfl,rfl,hH,hB,hz,q⟩:=h;cases rx;obtain⟨u,rfl,ru⟩:=rv.one;cases ru;obtain⟨z,its,n,r,hl,e⟩:=I.lstM hH;obtain⟨its2,r2,⟨ot,e2,c2,n2,d2⟩,z2⟩:=I.tuple hB;have hl2:=r2.length;have hsz:its.toArray.size+its2.toArray.size<=sizeLine:=by rw[List.size_toArray,List.size_toArray];omega
 have hlong:¬ (!its.toArray.isEmpty && Builtin.List.listTooLong (its.toArray.size+its2.toArray.size))=true:=by
  rw[notLongL hsz,Bool.and_false];exact Bool.false_ne_true
 obtain⟨oc,od,odt,osl⟩:=ot;obtain rfl:oc=.type "tuple":=c2;obtain rfl:odt=.seq its2.toArray n2:=d2;refine call_meets F.slot_list_extend ⟨_,e,rfl⟩ F.entry_list_extend (F.args_list_extend_2 _ _) (ext_tup hlong (by rw[List.size_toArray];omega) (by rw[Array.size_append];omega)) ⟨e,e2,?_⟩
 refine⟨.non,_,I.lset (its':=its++its2) hH e (by simp) (r.append r2) ?_,rfl,q⟩
 rw[List.length_append];omega
end
section
variable{X:Cx}{pins:List (Addr×Obj)}{σ:L2.St}{H:Hp}{s:Shared}
end
section
variable{X:Cx}{pins:List (Addr×Obj)}{σ:L2.St}{H:Hp}{s:Shared}{kS D:Addr}{vs:List Value}{kz:List Int}{keys:Array Value}{e e1:Nat}{A:Around}{E:Value->Shared->Prop}{PP:PySem.Fin->Shared->Prop}
end
section
variable{X:Cx}{pins:List (Addr×Obj)}{σ:L2.St}{H:Hp}{s:Shared}{c P:Addr}{pos:Pos}{qual:Str}{params:Arguments}{body:Expr}{scope:Scope}{firstLine:Nat}{E:Value->Shared->Prop}{Q:Value->Shared->Prop}{A:Around}
end
section
variable{K:W.Frag}{P:Addr}
variable(hP:K.lookup P=some (W.tabObj #[]))
include hP
end
end SW
set_option maxHeartbeats 2000000
namespace SW
open PySem PySem.Spec PyProof.Rows L2
section
variable{C CT P b:Addr}{H H':Hp}{p:Addr}{f m:Int}{pc:Nat}{M:MT}{tc:Int}{F:Addr->Prop}{R:MRows}{pos:Pos}{qual:Str}
end
end SW
set_option maxHeartbeats 2000000
namespace SW
open PySem PySem.Spec PyProof.Rows L2
end SW
set_option maxHeartbeats 2000000
namespace SW
open PySem PySem.Spec PyProof.Rows L2
section
variable{K:W.Frag}{H:Hp}{x y:V}{n:Nat}
end
section
variable{H:Hp}{Q:VK}{E:XK}{p:Addr}
end
section
variable{f m:Int}{pc:Nat}
end
end SW
set_option maxHeartbeats 2000000
namespace SW
open PySem PySem.Spec PyProof.Rows L2
section
variable{K:W.Frag}{H:Hp}
end
end SW
set_option maxHeartbeats 2000000
namespace SW
open PySem PySem.Spec PyProof.Rows L2
end SW
set_option maxHeartbeats 2000000
namespace SW
open PySem PySem.Spec PyProof.Rows L2
end SW
set_option maxHeartbeats 2000000
namespace SW
open PySem PySem.Spec PyProof.Rows L2
theorem getD_mem'{N:MRows}{i:Nat}{p:Int×Int}(h:p∈N.getD i []):∃ r,N[i]?=some r/\p∈r:=by
 rw[List.getD_eq_getElem?_getD]at h;cases e:N[i]? with
 | none=>rw[e]at h;cases h
 | some r=>rw[e]at h;exact⟨r,rfl,h⟩
section
variable{f m:Int}{M:MT}{cur:Int}
end
end SW
set_option maxHeartbeats 2000000
namespace SW
open PySem PySem.Spec PyProof.Rows L2
end SW
set_option maxHeartbeats 2000000
namespace SW
open PySem PySem.Spec PyProof.Rows L2
section
variable{O:KeyOrd}{ky:Keyed->O.α}
noncomputable def Le(ky:Keyed->O.α)(x y:Keyed):Prop:=O.kle (ky x) (ky y)
noncomputable def Srd(ky:Keyed->O.α)(l:List Keyed):Prop:=l.Pairwise (Le ky)
theorem Le.trans{x y z:Keyed}(a:Le ky x y)(b:Le ky y z):Le ky x z:=KeyOrd.kle_trans a b
theorem Le.of_lt{x y:Keyed}(h:O.blt (ky x) (ky y)=true):Le ky x y:=KeyOrd.kle_of_klt h
theorem Le.of_not{x y:Keyed}(h:O.blt (ky x) (ky y)=false):Le ky y x:=h
theorem Le.rfl'(x:Keyed):Le ky x x:=KeyOrd.kle_refl _
theorem Srd.app{l r:List Keyed}:Srd ky (l++r) ↔ Srd ky l/\Srd ky r /\ ∀ x∈l,∀ y∈r,Le ky x y:=List.pairwise_append
theorem Srd.drop{l:List Keyed}(h:Srd ky l)(i:Nat):Srd ky (l.drop i):=List.Pairwise.sublist (List.drop_sublist _ _) h
theorem Srd.take{l:List Keyed}(h:Srd ky l)(i:Nat):Srd ky (l.take i):=List.Pairwise.sublist (List.take_sublist _ _) h
theorem Srd.get{l:List Keyed}(h:Srd ky l){i j:Nat}{x y:Keyed}(hij:i<=j)(hx:l[i]?=some x)(hy:l[j]?=some y):Le ky x y:=by
 obtain⟨h1,rfl⟩:=List.getElem?_eq_some_iff.mp hx;obtain⟨h2,rfl⟩:=List.getElem?_eq_some_iff.mp hy;rcases Nat.lt_or_eq_of_le hij with z | rfl
 · exact List.pairwise_iff_getElem.mp h i j h1 h2 z
 exact Le.rfl' _
theorem mem_drop_get{l:List Keyed}{i:Nat}{y:Keyed}(h:y∈l.drop i):∃ j,i<=j/\l[j]?=some y:=by
 obtain⟨k,hk⟩:=List.getElem?_of_mem h;rw[List.getElem?_drop]at hk;exact⟨i+k,by omega,hk⟩
theorem mem_take_get{l:List Keyed}{i:Nat}{y:Keyed}(h:y∈l.take i):∃ j,j < i/\l[j]?=some y:=by
 obtain⟨k,hk⟩:=List.getElem?_of_mem h;have hl:=(List.getElem?_eq_some_iff.mp hk).1;rw[List.length_take]at hl;rw[List.getElem?_take_of_lt (by omega)]at hk
 exact⟨k,by omega,hk⟩
structure JL(ky:Keyed->O.α)(a b o:List Keyed)(i j:Nat):Prop where
 pm:o.Perm (a.take i++b.take j)
 so:Srd ky o
 bd:∀ x∈o,∀ y,y∈a.drop i∨y∈b.drop j->Le ky x y
theorem take_add{l:List Keyed}(i k:Nat):l.take (i+k)=l.take i++(l.drop i).take k:=by rw[List.take_add]
theorem JL.a{a b o:List Keyed}{i j:Nat}(J:JL ky a b o i j)(sa:Srd ky a)(k:Nat)(h:∀ x∈(a.drop i).take k,∀ y∈b.drop j,Le ky x y):JL ky a b (o++(a.drop i).take k) (i+k) j:=by
 have sd:=sa.drop i;rw[← List.take_append_drop k (a.drop i)]at sd;obtain⟨s1,s2,s3⟩:=Srd.app.mp sd;refine⟨?_,Srd.app.mpr ⟨J.so,s1,fun x hx y hy=>J.bd x hx y (.inl (List.mem_of_mem_take hy))⟩,fun x hx y hy=>?_⟩
 · rw[take_add]
   refine(J.pm.append_right _).trans ?_;rw[List.append_assoc,List.append_assoc];exact(List.Perm.append_left _ List.perm_append_comm)
 rcases List.mem_append.mp hx with z | z
 · refine J.bd x z y (hy.imp (fun u=>?_) id)
   rw[← List.drop_drop]at u;exact List.mem_of_mem_drop u
 rcases hy with u | u
 · rw[← List.drop_drop]at u
   exact s3 x z y u
 exact h x z y u
theorem JL.b{a b o:List Keyed}{i j:Nat}(J:JL ky a b o i j)(sb:Srd ky b)(k:Nat)(h:∀ x∈(b.drop j).take k,∀ y∈a.drop i,Le ky x y):JL ky a b (o++(b.drop j).take k) i (j+k):=by
 have sd:=sb.drop j;rw[← List.take_append_drop k (b.drop j)]at sd;obtain⟨s1,s2,s3⟩:=Srd.app.mp sd;refine⟨?_,Srd.app.mpr ⟨J.so,s1,fun x hx y hy=>J.bd x hx y (.inr (List.mem_of_mem_take hy))⟩,fun x hx y hy=>?_⟩
 · rw[take_add,← List.append_assoc]
   exact J.pm.append_right _
 rcases List.mem_append.mp hx with z | z
 · refine J.bd x z y (hy.imp id (fun u=>?_))
   rw[← List.drop_drop]at u;exact List.mem_of_mem_drop u
 rcases hy with u | u
 · exact h x z y u
 rw[← List.drop_drop]at u;exact s3 x z y u
noncomputable def Mgd(ky:Keyed->O.α)(a b r:List Keyed):Prop:=r.Perm (a++b)/\Srd ky r
theorem JL.all{a b o:List Keyed}{i j:Nat}(J:JL ky a b o i j):(o++a.drop i++b.drop j).Perm (a++b):=by
 have h1:(o++a.drop i++b.drop j).Perm (a.take i++b.take j++(a.drop i++b.drop j)):=by
  rw[List.append_assoc];exact J.pm.append_right _
 refine h1.trans ?_;have h2:(a.take i++b.take j++(a.drop i++b.drop j)).Perm (a.take i++a.drop i++(b.take j++b.drop j)):=by
  rw[List.append_assoc,List.append_assoc];refine List.Perm.append_left _ ?_;rw[← List.append_assoc,← List.append_assoc];exact List.Perm.append_right _ List.perm_append_comm
 rw[List.take_append_drop,List.take_append_drop]at h2;exact h2
theorem JL.fin1{a b o:List Keyed}{i j:Nat}(J:JL ky a b o i j)(sa:Srd ky a)(sb:Srd ky b)(h:a.length<=i∨b.length<=j):Mgd ky a b (o++a.drop i++b.drop j):=by
 refine⟨J.all,?_⟩;rcases h with h | h
 · rw[List.drop_of_length_le h,List.append_nil]
   exact Srd.app.mpr ⟨J.so,sb.drop j,fun x hx y hy=>J.bd x hx y (.inr hy)⟩
 rw[List.drop_of_length_le h,List.append_nil];exact Srd.app.mpr ⟨J.so,sa.drop i,fun x hx y hy=>J.bd x hx y (.inl hy)⟩
theorem JL.fin2{a b o:List Keyed}{i j:Nat}(J:JL ky a b o i j)(sa:Srd ky a)(sb:Srd ky b)(h:∀ x∈b,∀ y∈a.drop i,Le ky x y):Mgd ky a b (o++b.drop j++a.drop i):=by
 refine⟨List.Perm.trans ?_ J.all,?_⟩
 · rw[List.append_assoc,List.append_assoc]
   exact List.Perm.append_left _ List.perm_append_comm
 refine Srd.app.mpr ⟨Srd.app.mpr ⟨J.so,sb.drop j,fun x hx y hy=>J.bd x hx y (.inr hy)⟩,sa.drop i,fun x hx y hy=>?_⟩;rcases List.mem_append.mp hx with z | z
 · exact J.bd x z y (.inl hy)
 exact h x (List.mem_of_mem_drop z) y hy
theorem drop_one{l:List Keyed}{i:Nat}{x:Keyed}(h:l[i]?=some x):(l.drop i).take 1=[x]:=by
 obtain⟨hi,rfl⟩:=List.getElem?_eq_some_iff.mp h;rw[List.drop_eq_getElem_cons hi]
 rfl
structure JH(ky:Keyed->O.α)(a b o:List Keyed)(i j:Nat):Prop where
 pm:o.Perm (a.drop i++b.drop j)
 so:Srd ky o.reverse
 bd:∀ y∈o,∀ x,x∈a.take i∨x∈b.take j->Le ky x y
theorem drop_sub{l:List Keyed}{i k:Nat}(h:k<=i):l.drop k=(l.take i).drop k++l.drop i:=by
 conv=>lhs;rw[← List.take_append_drop i l]
 by_cases z:i<=l.length
 · rw[List.drop_append_of_le_length (by rw[List.length_take];omega)]
 have e:l.drop i=[]:=List.drop_of_length_le (by omega)
 rw[e,List.append_nil,List.append_nil]
theorem JH.a{a b o:List Keyed}{i j:Nat}(J:JH ky a b o i j)(sa:Srd ky a)(k:Nat)(hk:k<=i)(h:∀ y∈(a.take i).drop k,∀ x∈b.take j,Le ky x y):JH ky a b (o++((a.take i).drop k).reverse) k j:=by
 have sd:=sa.take i;rw[← List.take_append_drop k (a.take i)]at sd;obtain⟨s1,s2,s3⟩:=Srd.app.mp sd;have e:(a.take i).take k=a.take k:=by rw[List.take_take,Nat.min_eq_left hk]
 rw[e]at s1 s3;refine⟨?_,?_,fun y hy x hx=>?_⟩
 · rw[drop_sub (l:=a) hk]
   refine(J.pm.append_right _).trans ?_;refine(List.Perm.append_left _ (List.reverse_perm _)).trans ?_;rw[List.append_assoc];refine List.perm_append_comm.trans ?_;rw[List.append_assoc,List.append_assoc];exact List.perm_append_comm.trans (by rw[List.append_assoc])
 · rw[List.reverse_append,List.reverse_reverse]
   refine Srd.app.mpr ⟨s2,J.so,fun x hx y hy=>J.bd y (List.mem_reverse.mp hy) x (.inl (List.mem_of_mem_drop hx))⟩
 rcases List.mem_append.mp hy with z | z
 · refine J.bd y z x (hx.imp (fun u=>?_) id)
   exact(List.take_sublist_take_left hk).subset u
 rw[List.mem_reverse]at z;rcases hx with u | u
 · exact s3 x u y z
 exact h y z x u
theorem JH.b{a b o:List Keyed}{i j:Nat}(J:JH ky a b o i j)(sb:Srd ky b)(k:Nat)(hk:k<=j)(h:∀ y∈(b.take j).drop k,∀ x∈a.take i,Le ky x y):JH ky a b (o++((b.take j).drop k).reverse) i k:=by
 have sd:=sb.take j;rw[← List.take_append_drop k (b.take j)]at sd;obtain⟨s1,s2,s3⟩:=Srd.app.mp sd;have e:(b.take j).take k=b.take k:=by rw[List.take_take,Nat.min_eq_left hk]
 rw[e]at s1 s3;refine⟨?_,?_,fun y hy x hx=>?_⟩
 · rw[drop_sub (l:=b) hk]
   refine(J.pm.append_right _).trans ?_;refine(List.Perm.append_left _ (List.reverse_perm _)).trans ?_;rw[List.append_assoc];exact List.Perm.append_left _ List.perm_append_comm
 · rw[List.reverse_append,List.reverse_reverse]
   refine Srd.app.mpr ⟨s2,J.so,fun x hx y hy=>J.bd y (List.mem_reverse.mp hy) x (.inr (List.mem_of_mem_drop hx))⟩
 rcases List.mem_append.mp hy with z | z
 · refine J.bd y z x (hx.imp id (fun u=>?_))
   exact(List.take_sublist_take_left hk).subset u
 rw[List.mem_reverse]at z;rcases hx with u | u
 · exact h y z x u
 exact s3 x u y z
theorem JH.all{a b o:List Keyed}{i j:Nat}(J:JH ky a b o i j):(a.take i++b.take j++o.reverse).Perm (a++b):=by
 have h1:(a.take i++b.take j++o.reverse).Perm (a.take i++b.take j++(a.drop i++b.drop j)):=List.Perm.append_left _ ((List.reverse_perm _).trans J.pm);refine h1.trans ?_;have h2:(a.take i++b.take j++(a.drop i++b.drop j)).Perm (a.take i++a.drop i++(b.take j++b.drop j)):=by
  rw[List.append_assoc,List.append_assoc];refine List.Perm.append_left _ ?_;rw[← List.append_assoc,← List.append_assoc];exact List.Perm.append_right _ List.perm_append_comm
 rw[List.take_append_drop,List.take_append_drop]at h2;exact h2
theorem JH.fin1{a b o:List Keyed}{i j:Nat}(J:JH ky a b o i j)(sa:Srd ky a)(sb:Srd ky b)(h:i=0∨j=0):Mgd ky a b (a.take i++b.take j++o.reverse):=by
 refine⟨J.all,?_⟩;rcases h with rfl | rfl
 · rw[List.take_zero,List.nil_append]
   exact Srd.app.mpr ⟨sb.take j,J.so,fun x hx y hy=>J.bd y (List.mem_reverse.mp hy) x (.inr hx)⟩
 rw[List.take_zero,List.append_nil];exact Srd.app.mpr ⟨sa.take i,J.so,fun x hx y hy=>J.bd y (List.mem_reverse.mp hy) x (.inl hx)⟩
theorem JH.fin2{a b o:List Keyed}{i j:Nat}(J:JH ky a b o i j)(sa:Srd ky a)(sb:Srd ky b)(h:∀ x∈b.take j,∀ y∈a,Le ky x y):Mgd ky a b (b.take j++a.take i++o.reverse):=by
 refine⟨List.Perm.trans ?_ J.all,?_⟩
 · exact List.Perm.append_right _ List.perm_append_comm
 refine Srd.app.mpr ⟨Srd.app.mpr ⟨sb.take j,sa.take i,fun x hx y hy=>h x hx y (List.mem_of_mem_take hy)⟩,J.so,fun x hx y hy=>?_⟩;rw[List.mem_reverse]at hy;rcases List.mem_append.mp hx with z | z
 · exact J.bd y hy x (.inr z)
 exact J.bd y hy x (.inl z)
theorem take_one{l:List Keyed}{i:Nat}{x:Keyed}(h:l[i]?=some x):(l.take (i+1)).drop i=[x]:=by
 obtain⟨hi,rfl⟩:=List.getElem?_eq_some_iff.mp h;rw[List.drop_take,List.drop_eq_getElem_cons hi,show i+1 - i=1 by omega]
 rfl
end
section
variable{prog:Program}{w:World}{A:Around}{E:Value->Shared->Prop}{s:Shared}
noncomputable def gallopX:Bool->Keyed->Array Keyed->Nat->Nat->Nat->StateT SortSt Sem (Option Nat):=sortPriv% PySem.Builtin.gallop
theorem gallopX_eq(lf:Bool)(ky:Keyed)(xs:Array Keyed)(b n h:Nat):gallopX lf ky xs b n h=(do
 let bey (i:Nat):StateT SortSt Sem (Option Bool):=do
  let x ← elem' xs (b+i)
  if lf then lt' x ky else return(← lt' ky x).map (!·)
 let mut la:=0
 let mut of:=1
 let mut lo:=0
 let mut hi:=0
 let some rg ← bey h | return none
 if rg then
  let mx:=n - h
  for _ in [0:n] do
   if of ≥ mx then break
   let some mo ← bey (h+of) | return none
   if !mo then break
   la:=of
   of:=2*of+1
  lo:=h+la+1
  hi:=h+min of mx
 else
  let mx:=h+1
  for _ in [0:n] do
   if of ≥ mx then break
   let some fo ← bey (h - of) | return none
   if fo then break
   la:=of
   of:=2*of+1
  lo:=h+1 - min of mx
  hi:=h - la
 for _ in [0:n] do
  if lo ≥ hi then break
  let m:=lo+(hi - lo) / 2
  let some mo ← bey m | return none
  if mo then lo:=m+1 else hi:=m
 return some hi):=rfl
noncomputable abbrev beyX(lf:Bool)(ky:Keyed)(xs:Array Keyed)(i:Nat):StateT SortSt Sem (Option Bool):=do
 let x ← elem' xs i
 if lf=true then lt' x ky else return(← lt' ky x).map (!·)
theorem wpS_bin{n:Nat}{st:SortSt}{p:Nat->Bool}{Q:Option (Option Nat)×Nat×Nat->SortSt->Prop}{f:Nat->Option (Option Nat)×Nat×Nat->StateT SortSt Sem (ForInStep (Option (Option Nat)×Nat×Nat))}{lo hi:Nat}
 (hm:∀ i j,i<=j->j < n->p j=true->p i=true)
 (f0:∀ x l r,l ≥ r->f x (none,l,r)=pure (ForInStep.done (none,l,r)))
 (f1:∀ x l r (Q':ForInStep (Option (Option Nat)×Nat×Nat)->SortSt->Prop),l < r->r<=n->Q' (if p (l+(r - l) / 2)=true then .yield (none,l+(r - l) / 2+1,r)else .yield (none,l,l+(r - l) / 2)) st->wpS (model prog w) A E s (f x (none,l,r)) Q' st)
 (h1:lo<=hi) (h2:hi<=n) (h3:∀ i,i < lo->p i=true) (h4:∀ i,hi<=i->i < n->p i=false)
 (q:∀ k,k<=n->(∀ i,i < k->p i=true)->(∀ i,k<=i->i < n->p i=false)->Q (none,k,k) st) :
 wpS (model prog w) A E s (forIn [:n] ((none,lo,hi):Option (Option Nat)×Nat×Nat) f) Q st:=by
 refine wpS_forRange (I:=fun x c st'=>st'=st /\ ∃ l r,c=(none,l,r)/\l<=r/\r<=n/\r - l<=n - x/\(∀ i,i < l->p i=true)/\(∀ i,r<=i->i < n->p i=false)) ?_ ?_ ⟨rfl,lo,hi,rfl,h1,h2,by omega,h3,h4⟩
 · rintro x c st' _ hx ⟨rfl,l,r,rfl,a1,a2,a3,a4,a5⟩
   by_cases g:l ≥ r
   · rw[f0 x l r g]
     obtain rfl:l=r:=by omega
     exact wpS_pure (q l a2 a4 a5)
   refine f1 x l r _ (by omega) a2 ?_
   cases e:p (l+(r - l) / 2)with
   | true=>exact⟨rfl,l+(r - l) / 2+1,r,rfl,by omega,a2,by omega,fun i hi=>hm i _ (by omega) (by omega) e,a5⟩
   | false=>
     refine⟨rfl,l,l+(r - l) / 2,rfl,by omega,by omega,by omega,a4,fun i hi hn=>?_⟩
     cases e2:p i with
     | false=>rfl
     | true=>rw[hm _ i hi hn e2]at e;cases e
 rintro c st' ⟨rfl,l,r,rfl,a1,a2,a3,a4,a5⟩;obtain rfl:l=r:=by omega
 exact q l a2 a4 a5
theorem wpS_gallop{lf:Bool}{ky:Keyed}{xs:Array Keyed}{b n h:Nat}{st:SortSt}{Q:Option Nat->SortSt->Prop}(p:Nat->Bool)
 (hb:∀ i,i < n -> ∀ Q':Option Bool->SortSt->Prop,Q' (some (p i)) st->wpS (model prog w) A E s (beyX lf ky xs (b+i)) Q' st)
 (hm:∀ i j,i<=j->j < n->p j=true->p i=true) (hh:h < n)
 (q:∀ k,k<=n->(∀ i,i < k->p i=true)->(∀ i,k<=i->i < n->p i=false)->Q (some k) st) :
 wpS (model prog w) A E s (gallopX lf ky xs b n h) Q st:=by
 rw[gallopX_eq]
 dsimp only
 refine wpS_bind (hb h hh _ ?_)
 dsimp only
 cases e:p h with
 | true=>
   rw[if_pos rfl];refine wpS_bind (wpS_mono (wpS_forRange (I:=fun x c st'=>st'=st /\ ∃ la of,c=(none,la,of)/\x+1<=of/\la < of/\h+la < n/\p (h+la)=true)
    (Q:=fun c st'=>st'=st /\ ∃ la of,c=(none,la,of)/\la < of/\h+la < n/\p (h+la)=true/\(of ≥ n - h∨h+of < n/\p (h+of)=false)) ?_ ?_ ⟨rfl,0,1,rfl,by omega,by omega,by omega,e⟩) ?_)
   · rintro x c st' _ hx ⟨rfl,la,of,rfl,a1,a2,a3,a4⟩
     dsimp only
     by_cases g:of ≥ n - h
     · rw[if_pos g]
       exact wpS_pure ⟨rfl,la,of,rfl,a2,a3,a4,.inl g⟩
     rw[if_neg g];refine wpS_bind (hb (h+of) (by omega) _ ?_)
     cases e2:p (h+of)with
     | true=>exact wpS_pure ⟨rfl,of,2*of+1,rfl,by omega,by omega,by omega,e2⟩
     | false=>exact wpS_pure ⟨rfl,la,of,rfl,a2,a3,a4,.inr ⟨by omega,e2⟩⟩
   · rintro c st' ⟨rfl,la,of,rfl,a1,a2,a3,a4⟩
     exact⟨rfl,la,of,rfl,a2,a3,a4,.inl (by omega)⟩
   rintro c st' ⟨rfl,la,of,rfl,a2,a3,a4,a5⟩
   dsimp only
   refine wpS_bind (wpS_bin (p:=p) hm (fun x l r g=>if_pos g) (fun x l r Q' g g2 z=>?_) ?_ (by omega) (fun i hi=>hm i (h+la) (by omega) a3 a4) (fun i hi hn=>?_) fun k k1 k2 k3=>wpS_pure (q k k1 k2 k3))
   · show wpS _ _ _ _ (ite _ _ _) _ _
     rw[if_neg (Nat.not_le.mpr g)];refine wpS_bind (hb (l+(r - l) / 2) (by omega) _ ?_)
     dsimp only
     revert z
     cases p (l+(r - l) / 2) <;> exact fun z=>wpS_pure z
   · rcases a5 with z | ⟨z,_⟩ <;> omega
   rcases a5 with z | ⟨z,y⟩
   · omega
   cases e2:p i with
   | false=>rfl
   | true=>rw[hm (h+of) i (by omega) hn e2]at y;cases y
 | false=>
   rw[if_neg (by simp)]
   refine wpS_bind (wpS_mono (wpS_forRange (I:=fun x c st'=>st'=st /\ ∃ la of,c=(none,la,of)/\x+1<=of/\la < of/\la<=h/\p (h - la)=false)
    (Q:=fun c st'=>st'=st /\ ∃ la of,c=(none,la,of)/\la < of/\la<=h/\p (h - la)=false/\(of ≥ h+1∨of<=h/\p (h - of)=true)) ?_ ?_ ⟨rfl,0,1,rfl,by omega,by omega,by omega,e⟩) ?_)
   · rintro x c st' _ hx ⟨rfl,la,of,rfl,a1,a2,a3,a4⟩
     dsimp only
     by_cases g:of ≥ h+1
     · rw[if_pos g]
       exact wpS_pure ⟨rfl,la,of,rfl,a2,a3,a4,.inl g⟩
     rw[if_neg g];refine wpS_bind (hb (h - of) (by omega) _ ?_)
     cases e2:p (h - of)with
     | false=>exact wpS_pure ⟨rfl,of,2*of+1,rfl,by omega,by omega,by omega,e2⟩
     | true=>exact wpS_pure ⟨rfl,la,of,rfl,a2,a3,a4,.inr ⟨by omega,e2⟩⟩
   · rintro c st' ⟨rfl,la,of,rfl,a1,a2,a3,a4⟩
     exact⟨rfl,la,of,rfl,a2,a3,a4,.inl (by omega)⟩
   rintro c st' ⟨rfl,la,of,rfl,a2,a3,a4,a5⟩
   dsimp only
   refine wpS_bind (wpS_bin (p:=p) hm (fun x l r g=>if_pos g) (fun x l r Q' g g2 z=>?_) (by omega) (by omega) (fun i hi=>?_) (fun i hi hn=>?_) fun k k1 k2 k3=>wpS_pure (q k k1 k2 k3))
   · show wpS _ _ _ _ (ite _ _ _) _ _
     rw[if_neg (Nat.not_le.mpr g)];refine wpS_bind (hb (l+(r - l) / 2) (by omega) _ ?_)
     dsimp only
     revert z
     cases p (l+(r - l) / 2) <;> exact fun z=>wpS_pure z
   · rcases a5 with z | ⟨z,y⟩
     · omega
     exact hm i (h - of) (by omega) (by omega) y
   cases e2:p i with
   | false=>rfl
   | true=>rw[hm (h - la) i hi hn e2]at a4;cases a4
end
end SW
namespace SW
open PySem PySem.Spec PyProof.Rows L2
noncomputable def setGalX:Nat->StateT SortSt Sem Unit:=sortPriv% PySem.Builtin.setMinGallop
theorem setGalX_eq(g:Nat):setGalX g=modify fun z=>SortSt.mk' (kindOf z) (arrOf z) (pendingOf z) g (failedOf z):=rfl
noncomputable abbrev MSt:=Option (Array Keyed)×Array Keyed×Nat×Nat×Nat×Nat×Nat
noncomputable abbrev MS2:=Option (Array Keyed)×Array Keyed×Nat×Nat×Nat×Nat
noncomputable abbrev MS1:=Option (Array Keyed)×Array Keyed×Nat×Nat×Nat
section
variable(p q:Array Keyed)
noncomputable def fin1L(o:Array Keyed)(i j:Nat):Array Keyed:=o++p.extract i p.size++q.extract j q.size
noncomputable def fin2L(o:Array Keyed)(i j:Nat):Array Keyed:=o++q.extract j q.size++p.extract i p.size
noncomputable def loC(o:Array Keyed)(i j mg k l:Nat):StateT SortSt Sem (ForInStep MSt):=do
 let x ← elem' p i
 if(i+1+1 == p.size)=true then pure (.done (some (fin2L p q (o.push x) (i+1) j),o.push x,i+1,j,mg,k,l))
 else if(decide (k < 7) && decide (l < 7))=true then pure (.done (none,o.push x,i+1,j,mg,k,l))else pure (.yield (none,o.push x,i+1,j,mg,k,l))
noncomputable def loB(o:Array Keyed)(i j mg k bc:Nat):StateT SortSt Sem (ForInStep MSt):=do
 let y ← elem' q j
 if(j+1 == q.size)=true then pure (.done (some (fin1L p q (o.push y) i (j+1)),o.push y,i,j+1,mg,k,bc))
 else do
  let v ← elem' p i
  let z ← gallopX true v q (j+1) (q.size - (j+1)) 0
  match z with
  | some l=>
    if l > 0 then
     if(j+1+l == q.size)=true then pure (.done (some (fin1L p q (o.push y++q.extract (j+1) (j+1+l)) i (j+1+l)),o.push y++q.extract (j+1) (j+1+l),i,j+1+l,mg,k,l))
     else loC p q (o.push y++q.extract (j+1) (j+1+l)) i (j+1+l) mg k l
    else loC p q (o.push y) i (j+1) mg k l
  | _=>pure (.done (some (fin1L p q (o.push y) i (j+1)),o.push y,i,j+1,mg,k,bc))
noncomputable def loG(o:Array Keyed)(i j mg ac bc:Nat):StateT SortSt Sem (ForInStep MSt):=do
 setGalX mg
 let y ← elem' q j
 let z ← gallopX false y p i (p.size - i) 0
 match z with
 | some k=>
   if k > 0 then
    if(i+k+1 == p.size)=true then pure (.done (some (fin2L p q (o++p.extract i (i+k)) (i+k) j),o++p.extract i (i+k),i+k,j,mg,k,bc))
    else if(i+k == p.size)=true then pure (.done (some (fin1L p q (o++p.extract i (i+k)) (i+k) j),o++p.extract i (i+k),i+k,j,mg,k,bc))
    else loB p q (o++p.extract i (i+k)) (i+k) j mg k bc
   else loB p q o i j mg k bc
 | _=>pure (.done (some (fin1L p q o i j),o,i,j,mg,ac,bc))
noncomputable def loL(c:MSt):StateT SortSt Sem (ForInStep MSt):=
 if c.2.2.2.2.1 > 1 then loG p q c.2.1 c.2.2.1 c.2.2.2.1 (c.2.2.2.2.1 - 1) c.2.2.2.2.2.1 c.2.2.2.2.2.2 else loG p q c.2.1 c.2.2.1 c.2.2.2.1 c.2.2.2.2.1 c.2.2.2.2.2.1 c.2.2.2.2.2.2
noncomputable def loA(mg:Nat)(c:MS2):StateT SortSt Sem (ForInStep MS2):=do
 let y ← elem' q c.2.2.2.1
 let v ← elem' p c.2.2.1
 let z ← lt' y v
 match z with
 | some bw=>
   if bw=true then do
    let y ← elem' q c.2.2.2.1
    if(c.2.2.2.1+1 == q.size)=true then pure (.done (some (fin1L p q (c.2.1.push y) c.2.2.1 (c.2.2.2.1+1)),c.2.1.push y,c.2.2.1,c.2.2.2.1+1,0,c.2.2.2.2.2+1))
    else if c.2.2.2.2.2+1 ≥ mg then pure (.done (none,c.2.1.push y,c.2.2.1,c.2.2.2.1+1,0,c.2.2.2.2.2+1))else pure (.yield (none,c.2.1.push y,c.2.2.1,c.2.2.2.1+1,0,c.2.2.2.2.2+1))
   else do
    let v ← elem' p c.2.2.1
    if(c.2.2.1+1+1 == p.size)=true then pure (.done (some (fin2L p q (c.2.1.push v) (c.2.2.1+1) c.2.2.2.1),c.2.1.push v,c.2.2.1+1,c.2.2.2.1,c.2.2.2.2.1+1,0))
    else if c.2.2.2.2.1+1 ≥ mg then pure (.done (none,c.2.1.push v,c.2.2.1+1,c.2.2.2.1,c.2.2.2.2.1+1,0))else pure (.yield (none,c.2.1.push v,c.2.2.1+1,c.2.2.2.1,c.2.2.2.2.1+1,0))
 | _=>pure (.done (some (fin1L p q c.2.1 c.2.2.1 c.2.2.2.1),c.2))
noncomputable def loO(c:MS1):StateT SortSt Sem (ForInStep MS1):=do
 let c1 ← forIn [:p.size+q.size] ((none,c.2.1,c.2.2.1,c.2.2.2.1,0,0):MS2) fun _=>loA p q c.2.2.2.2
 match c1.1 with
 | some r=>pure (.done (some r,c1.2.1,c1.2.2.1,c1.2.2.2.1,c.2.2.2.2))
 | none=>do
   liftM (rule "list.sort.gallop")
   let c2 ← forIn [:p.size+q.size] ((none,c1.2.1,c1.2.2.1,c1.2.2.2.1,c.2.2.2.2+1,c1.2.2.2.2.1,c1.2.2.2.2.2):MSt) fun _=>loL p q
   match c2.1 with
   | some r=>pure (.done (some r,c2.2.1,c2.2.2.1,c2.2.2.2.1,c2.2.2.2.2.1))
   | none=>do
     setGalX (c2.2.2.2.2.1+1)
     pure (.yield (none,c2.2.1,c2.2.2.1,c2.2.2.2.1,c2.2.2.2.2.1+1))
noncomputable def mergeLoX:Array Keyed->Array Keyed->StateT SortSt Sem (Array Keyed):=sortPriv% PySem.Builtin.mergeLo
theorem mergeLoX_eq:mergeLoX p q=(do
 liftM (rule "list.sort.merge-lo")
 let y ← elem' q 0
 if(1 == q.size)=true then pure (fin1L p q #[y] 0 1)
 else if(0+1 == p.size)=true then pure (fin2L p q #[y] 0 1)
 else do
  let z ← get
  let c ← forIn [:p.size+q.size] ((none,#[y],0,1,gallopOf z):MS1) fun _=>loO p q
  match c.1 with
  | some r=>pure r
  | none=>liftM (unsupported "internal:list.sort.merge-bound")):=by kernel_rfl
end
structure SmS(st st':SortSt):Prop where
 k:kindOf st'=kindOf st
 a:arrOf st'=arrOf st
 p:pendingOf st'=pendingOf st
 f:failedOf st'=failedOf st
theorem SmS.rfl'(st:SortSt):SmS st st:=⟨rfl,rfl,rfl,rfl⟩
theorem SmS.gal{st st':SortSt}(h:SmS st st')(g:Nat):SmS st (SortSt.mk' (kindOf st') (arrOf st') (pendingOf st') g (failedOf st')):=⟨h.k,h.a,h.p,h.f⟩
section
variable{prog:Program}{w:World}{A:Around}{E:Value->Shared->Prop}{s:Shared}{O:KeyOrd}{ky:Keyed->O.α}{good:Keyed->Prop}{kd:SortKind}
noncomputable def LtOk(prog:Program)(w:World)(A:Around)(E:Value->Shared->Prop)(s:Shared)(O:KeyOrd)(ky:Keyed->O.α)(good:Keyed->Prop)(kd:SortKind):Prop:=
 ∀(x y:Keyed) (st:SortSt) (Q:Option Bool->SortSt->Prop),good x->good y->kindOf st=kd->Q (some (O.blt (ky x) (ky y))) st->wpS (model prog w) A E s (lt' x y) Q st
theorem wpS_elem{xs:Array Keyed}{i:Nat}{x:Keyed}{st:SortSt}{Q:Keyed->SortSt->Prop}(h:xs[i]?=some x)(q:Q x st):wpS (model prog w) A E s (elem' xs i) Q st:=by
 rw[elem'_eq,h];exact wpS_pure q
theorem wpS_bey(hL:LtOk prog w A E s O ky good kd){lf:Bool}{key x:Keyed}{xs:Array Keyed}{i:Nat}{st:SortSt}{Q:Option Bool->SortSt->Prop}(hk:kindOf st=kd)(hx:xs[i]?=some x)(g1:good key)(g2:good x)
 (q:Q (some (if lf=true then O.blt (ky x) (ky key)else !O.blt (ky key) (ky x))) st):wpS (model prog w) A E s (beyX lf key xs i) Q st:=by
 unfold beyX;refine wpS_bind (wpS_elem hx ?_);cases lf with
 | true=>exact hL x key st _ g2 g1 hk q
 | false=>exact wpS_bind (hL key x st _ g1 g2 hk (wpS_pure q))
theorem wpS_gal(hL:LtOk prog w A E s O ky good kd){lf:Bool}{key:Keyed}{xs:Array Keyed}{b n h:Nat}{st:SortSt}{Q:Option Nat->SortSt->Prop}(hk:kindOf st=kd)(g1:good key)(gx:∀ x∈xs.toList,good x)
 (sx:∀ i j x y,b<=i->i<=j->j < b+n->xs[i]?=some x->xs[j]?=some y->Le ky x y) (hn:b+n<=xs.size) (hh:h < n)
 (q:∀ k,k<=n->(∀ i x,b<=i->i < b+k->xs[i]?=some x->(lf=true->O.blt (ky x) (ky key)=true)/\(lf=false->Le ky x key)) ->
  (∀ i x,b+k<=i->i < b+n->xs[i]?=some x->(lf=true->Le ky key x)/\(lf=false->O.blt (ky key) (ky x)=true))->Q (some k) st) :
 wpS (model prog w) A E s (gallopX lf key xs b n h) Q st:=by
 have at_:∀ i,i < n -> ∃ x,xs[b+i]?=some x/\good x:=fun i hi=>by
  have hi':b+i < xs.size:=by omega
  exact⟨xs[b+i],Array.getElem?_eq_getElem hi',gx _ (by simp)⟩
 have P:∀ i,∃ v:Bool,∀ x,xs[b+i]?=some x->v=(if lf=true then O.blt (ky x) (ky key)else !O.blt (ky key) (ky x)):=fun i=>by
  cases e:xs[b+i]? with
  | none=>exact⟨true,fun x h=>by cases h⟩
  | some x=>exact⟨_,fun y h=>by cases h;rfl⟩
 obtain⟨p,hp⟩:∃ p:Nat->Bool,∀ i x,xs[b+i]?=some x->p i=(if lf=true then O.blt (ky x) (ky key)else !O.blt (ky key) (ky x)):=⟨fun i=>(P i).choose,fun i=>(P i).choose_spec⟩;clear P;refine wpS_gallop p (fun i hi Q' z=>?_) (fun i j hij hj e=>?_) hh fun k k1 k2 k3=>q k k1 (fun i x h1 h2 e=>?_) fun i x h1 h2 e=>?_
 · obtain⟨x,ex,gxx⟩:=at_ i hi
   exact wpS_bey hL hk ex g1 gxx (by rw[← hp i x ex];exact z)
 · obtain⟨x,ex,_⟩:=at_ i (by omega)
   obtain⟨y,ey,_⟩:=at_ j hj;have le:=sx (b+i) (b+j) x y (by omega) (by omega) (by omega) ex ey
   rw[hp i x ex];rw[hp j y ey]at e;cases lf with
   | true=>
     have e:O.blt (ky y) (ky key)=true:=e;exact KeyOrd.klt_of_kle_of_klt le e
   | false=>
     have e:(!O.blt (ky key) (ky y))=true:=e;have e:O.kle (ky y) (ky key):=by unfold KeyOrd.kle;simpa using e
     have:=KeyOrd.kle_trans le e;show(!O.blt (ky key) (ky x))=true;rw[show O.blt (ky key) (ky x)=false from this]
     rfl
 · obtain⟨i',rfl⟩:∃ i',i=b+i':=⟨i - b,by omega⟩
   have:=k2 i' (by omega)
   rw[hp i' x e]at this
   constructor
   · rintro rfl;exact this
   rintro rfl;have e:(!O.blt (ky key) (ky x))=true:=this;show O.blt (ky key) (ky x)=false
   simpa using e
 obtain⟨i',rfl⟩:∃ i',i=b+i':=⟨i - b,by omega⟩
 have:=k3 i' (by omega) (by omega)
 rw[hp i' x e]at this
 constructor
 · rintro rfl;exact this
 rintro rfl;have e:(!O.blt (ky key) (ky x))=false:=this
 simpa using e
theorem wpS_ite{α:Type}{c:Prop}[Decidable c]{m n:StateT SortSt Sem α}{Q:α -> SortSt->Prop}{st:SortSt}(h1:c->wpS (model prog w) A E s m Q st)(h2:¬ c->wpS (model prog w) A E s n Q st):wpS (model prog w) A E s (if c then m else n) Q st:=by
 by_cases h:c
 · rw[if_pos h];exact h1 h
 rw[if_neg h];exact h2 h
theorem wpS_setG{st st0:SortSt}{g:Nat}{Q:Unit->SortSt->Prop}(S:SmS st st0)(h:∀ st',SmS st st'->Q () st'):wpS (model prog w) A E s (setGalX g) Q st0:=by
 rw[setGalX_eq];exact wpS_modify (h _ (S.gal g))
theorem of_beq{a b:Nat}(h:(a == b)=true):a=b:=by simpa using h
theorem of_nbeq{a b:Nat}(h:¬ (a == b)=true):¬ a=b:=by simpa using h
theorem ext_list(p:Array Keyed)(i j:Nat):(p.extract i j).toList=(p.toList.drop i).take (j - i):=by
 rw[Array.toList_extract,List.extract_eq_take_drop]
theorem ext_end(p:Array Keyed)(i:Nat):(p.extract i p.size).toList=p.toList.drop i:=by
 rw[ext_list,List.take_of_length_le (by rw[List.length_drop,Array.length_toList];exact Nat.le_refl _)]
theorem at_list{p:Array Keyed}{i:Nat}{x:Keyed}(h:p[i]?=some x):p.toList[i]?=some x:=by rw[Array.getElem?_toList];exact h
theorem list_at{p:Array Keyed}{i:Nat}{x:Keyed}(h:p.toList[i]?=some x):p[i]?=some x:=by rw[← Array.getElem?_toList];exact h
theorem Srd.at{p:Array Keyed}(h:Srd ky p.toList){i j:Nat}{x y:Keyed}(hij:i<=j)(hx:p[i]?=some x)(hy:p[j]?=some y):Le ky x y:=h.get hij (at_list hx) (at_list hy)
theorem JL.a1{p q:Array Keyed}{o:Array Keyed}{i j:Nat}{x y:Keyed}(J:JL ky p.toList q.toList o.toList i j)(sp:Srd ky p.toList)(sq:Srd ky q.toList)(hx:p[i]?=some x)(hy:q[j]?=some y)(h:Le ky x y):JL ky p.toList q.toList (o.push x).toList (i+1) j:=by
 have:=J.a sp 1 (fun z hz u hu=>by
  rw[drop_one (at_list hx),List.mem_singleton]at hz;obtain⟨k,hk,e⟩:=mem_drop_get hu;subst hz;exact h.trans (sq.get hk (at_list hy) e))
 rw[drop_one (at_list hx)]at this;rw[Array.toList_push];exact this
theorem JL.b1{p q:Array Keyed}{o:Array Keyed}{i j:Nat}{x y:Keyed}(J:JL ky p.toList q.toList o.toList i j)(sp:Srd ky p.toList)(sq:Srd ky q.toList)(hx:p[i]?=some x)(hy:q[j]?=some y)(h:Le ky y x):JL ky p.toList q.toList (o.push y).toList i (j+1):=by
 have:=J.b sq 1 (fun z hz u hu=>by
  rw[drop_one (at_list hy),List.mem_singleton]at hz;obtain⟨k,hk,e⟩:=mem_drop_get hu;subst hz;exact h.trans (sp.get hk (at_list hx) e))
 rw[drop_one (at_list hy)]at this;rw[Array.toList_push];exact this
theorem some_at{p:Array Keyed}{i:Nat}(h:i < p.size):∃ x,p[i]?=some x/\x∈p.toList:=⟨p[i],Array.getElem?_eq_getElem h,by simp⟩
theorem JL.aK{p q:Array Keyed}{o:Array Keyed}{i j k:Nat}{y:Keyed}(J:JL ky p.toList q.toList o.toList i j)(sp:Srd ky p.toList)(sq:Srd ky q.toList)(hy:q[j]?=some y)(h:∀ m x,i<=m->m < i+k->p[m]?=some x->Le ky x y):JL ky p.toList q.toList (o++p.extract i (i+k)).toList (i+k) j:=by
 have:=J.a sp k (fun z hz u hu=>by
  obtain⟨m,hm,e⟩:=mem_take_get hz;rw[List.getElem?_drop]at e;obtain⟨n,hn,e2⟩:=mem_drop_get hu;exact(h (i+m) z (by omega) (by omega) (list_at e)).trans (sq.get hn (at_list hy) e2))
 rw[Array.toList_append,ext_list,Nat.add_sub_cancel_left];exact this
theorem JL.bK{p q:Array Keyed}{o:Array Keyed}{i j k:Nat}{x:Keyed}(J:JL ky p.toList q.toList o.toList i j)(sp:Srd ky p.toList)(sq:Srd ky q.toList)(hx:p[i]?=some x)(h:∀ m y,j<=m->m < j+k->q[m]?=some y->Le ky y x):JL ky p.toList q.toList (o++q.extract j (j+k)).toList i (j+k):=by
 have:=J.b sq k (fun z hz u hu=>by
  obtain⟨m,hm,e⟩:=mem_take_get hz;rw[List.getElem?_drop]at e;obtain⟨n,hn,e2⟩:=mem_drop_get hu;exact(h (j+m) z (by omega) (by omega) (list_at e)).trans (sp.get hn (at_list hx) e2))
 rw[Array.toList_append,ext_list,Nat.add_sub_cancel_left];exact this
structure LoF(prog:Program)(w:World)(A:Around)(E:Value->Shared->Prop)(s:Shared){O:KeyOrd}(ky:Keyed->O.α)(good:Keyed->Prop)(kd:SortKind)(p q:Array Keyed)(st:SortSt)(Q:Array Keyed->SortSt->Prop):Prop where
 hL:LtOk prog w A E s O ky good kd
 hk:kindOf st=kd
 gp:∀ x∈p.toList,good x
 gq:∀ x∈q.toList,good x
 sp:Srd ky p.toList
 sq:Srd ky q.toList
 f1:∀(o:Array Keyed) (i j:Nat) (st':SortSt),SmS st st'->JL ky p.toList q.toList o.toList i j->(p.size<=i∨q.size<=j)->Q (fin1L p q o i j) st'
 f2:∀(o:Array Keyed) (i j:Nat) (st':SortSt),SmS st st'->JL ky p.toList q.toList o.toList i j->i+1=p.size->Q (fin2L p q o i j) st'
structure LoI(ky:Keyed->O.α)(p q:Array Keyed)(st:SortSt)(B:Nat)(o:Array Keyed)(i j:Nat)(st':SortSt):Prop where
 S:SmS st st'
 J:JL ky p.toList q.toList o.toList i j
 a1:i+1 < p.size
 a2:j < q.size
 a3:B<=i+j
variable{p q:Array Keyed}{st st':SortSt}{Q:Array Keyed->SortSt->Prop}{B:Nat}
noncomputable def LoD(ky:Keyed->O.α)(p q:Array Keyed)(st:SortSt)(Q:Array Keyed->SortSt->Prop)(B:Nat)(c:MSt)(st':SortSt):Prop:=(∃ r z,c=(some r,z)/\Q r st') ∨ ∃ o i j mg ac bc,c=(none,o,i,j,mg,ac,bc)/\LoI ky p q st B o i j st'
noncomputable def LoR(ky:Keyed->O.α)(p q:Array Keyed)(st:SortSt)(Q:Array Keyed->SortSt->Prop)(B:Nat)(r:ForInStep MSt)(st':SortSt):Prop:=match r with
 | .done c=>LoD ky p q st Q B c st'
 | .yield c=>∃ o i j mg ac bc,c=(none,o,i,j,mg,ac,bc)/\LoI ky p q st B o i j st'
theorem wpS_loC(F:LoF prog w A E s ky good kd p q st Q){o:Array Keyed}{i j mg k l:Nat}{v:Keyed}(I:LoI ky p q st B o i j st')(ev:p[i]?=some v)(h:∀ y,q[j]?=some y->Le ky v y):wpS (model prog w) A E s (loC p q o i j mg k l) (LoR ky p q st Q B) st':=by
 obtain⟨y,ey,_⟩:=some_at I.a2;have J:=I.J.a1 F.sp F.sq ev ey (h y ey);have a3:=I.a3;refine wpS_bind (wpS_elem ev ?_);refine wpS_ite (fun c=>wpS_pure (.inl ⟨_,_,rfl,F.f2 _ _ _ _ I.S J (of_beq c)⟩)) (fun c=>?_);have K:LoI ky p q st B (o.push v) (i+1) j st':=⟨I.S,J,Nat.lt_of_le_of_ne I.a1 (of_nbeq c),I.a2,Nat.le_trans a3 (by omega)⟩
 exact wpS_ite (fun _=>wpS_pure (.inr ⟨_,_,_,_,_,_,rfl,K⟩)) fun _=>wpS_pure ⟨_,_,_,_,_,_,rfl,K⟩
theorem wpS_loB(F:LoF prog w A E s ky good kd p q st Q){o:Array Keyed}{i j mg k bc:Nat}{y:Keyed}(I:LoI ky p q st B o i j st')(ey:q[j]?=some y)(h:∀ v,p[i]?=some v->Le ky y v):wpS (model prog w) A E s (loB p q o i j mg k bc) (LoR ky p q st Q B) st':=by
 obtain⟨v,ev,mv⟩:=some_at (Nat.lt_of_succ_lt I.a1);have J:=I.J.b1 F.sp F.sq ev ey (h v ev);have a1:=I.a1;have a2:=I.a2;have a3:=I.a3;refine wpS_bind (wpS_elem ey ?_);refine wpS_ite (fun c=>wpS_pure (.inl ⟨_,_,rfl,F.f1 _ _ _ _ I.S J (.inr (Nat.le_of_eq (of_beq c).symm))⟩)) (fun c=>?_);have a4:j+1 < q.size:=Nat.lt_of_le_of_ne I.a2 (of_nbeq c);refine wpS_bind (wpS_elem ev (wpS_bind (wpS_gal F.hL (I.S.k.trans F.hk) (F.gp _ mv) F.gq (fun i' j' x y _ h2 _ ex ey=>F.sq.at h2 ex ey) (by omega) (by omega) fun l l1 l2 l3=>?_)))
 have l4:∀ y,q[j+1+l]?=some y->Le ky v y:=fun y e=>(l3 (j+1+l) y (Nat.le_refl _) (by have:=(Array.getElem?_eq_some_iff.mp e).1;omega) e).1 rfl
 refine wpS_ite (fun g=>?_) (fun g=>?_)
 · have J4:=J.bK (k:=l) F.sp F.sq ev fun m x h1 h2 e=>Le.of_lt ((l2 m x h1 h2 e).1 rfl)
   refine wpS_ite (fun c=>wpS_pure (.inl ⟨_,_,rfl,F.f1 _ _ _ _ I.S J4 (.inr (Nat.le_of_eq (of_beq c).symm))⟩)) (fun c=>?_);have:=of_nbeq c;exact wpS_loC F ⟨I.S,J4,a1,by omega,by omega⟩ ev l4
 obtain rfl:l=0:=Nat.eq_zero_of_not_pos g;exact wpS_loC F ⟨I.S,J,a1,a4,Nat.le_succ_of_le a3⟩ ev l4
theorem wpS_loG(F:LoF prog w A E s ky good kd p q st Q){o:Array Keyed}{i j mg ac bc:Nat}(I:LoI ky p q st B o i j st'):wpS (model prog w) A E s (loG p q o i j mg ac bc) (LoR ky p q st Q B) st':=by
 obtain⟨y,ey,my⟩:=some_at I.a2;have a1:=I.a1;have a3:=I.a3;refine wpS_bind (wpS_setG I.S fun st3 S3=>?_);refine wpS_bind (wpS_elem ey (wpS_bind (wpS_gal F.hL (S3.k.trans F.hk) (F.gq _ my) F.gp (fun i' j' x y _ h2 _ ex ey=>F.sp.at h2 ex ey) (by omega) (by omega) fun k k1 k2 k3=>?_)))
 have k4:∀ v,p[i+k]?=some v->Le ky y v:=fun v e=>Le.of_lt ((k3 (i+k) v (Nat.le_refl _) (by have:=(Array.getElem?_eq_some_iff.mp e).1;omega) e).2 rfl)
 refine wpS_ite (fun g=>?_) (fun g=>?_)
 · have J:=I.J.aK (k:=k) F.sp F.sq ey fun m x h1 h2 e=>(k2 m x h1 h2 e).2 rfl
   refine wpS_ite (fun c=>wpS_pure (.inl ⟨_,_,rfl,F.f2 _ _ _ _ S3 J (of_beq c)⟩)) (fun c=>?_);refine wpS_ite (fun c5=>wpS_pure (.inl ⟨_,_,rfl,F.f1 _ _ _ _ S3 J (.inl (Nat.le_of_eq (of_beq c5).symm))⟩)) (fun c5=>?_);have n1:=of_nbeq c;have n2:=of_nbeq c5;exact wpS_loB F ⟨S3,J,by omega,I.a2,by omega⟩ ey k4
 obtain rfl:k=0:=Nat.eq_zero_of_not_pos g;exact wpS_loB F ⟨S3,I.J,a1,I.a2,a3⟩ ey k4
theorem wpS_loL(F:LoF prog w A E s ky good kd p q st Q){o:Array Keyed}{i j mg ac bc:Nat}(I:LoI ky p q st B o i j st'):wpS (model prog w) A E s (loL p q (none,o,i,j,mg,ac,bc)) (LoR ky p q st Q B) st':=
 wpS_ite (fun _=>wpS_loG F I) fun _=>wpS_loG F I
noncomputable def LoE(ky:Keyed->O.α)(p q:Array Keyed)(st:SortSt)(Q:Array Keyed->SortSt->Prop)(B:Nat)(r:ForInStep MS2)(st':SortSt):Prop:=match r with
 | .done c=>(∃ r z,c=(some r,z)/\Q r st') ∨ ∃ o i j ac bc,c=(none,o,i,j,ac,bc)/\LoI ky p q st B o i j st'
 | .yield c=>∃ o i j ac bc,c=(none,o,i,j,ac,bc)/\LoI ky p q st B o i j st'
theorem wpS_loA(F:LoF prog w A E s ky good kd p q st Q){o:Array Keyed}{i j mg ac bc:Nat}(I:LoI ky p q st B o i j st'):wpS (model prog w) A E s (loA p q mg (none,o,i,j,ac,bc)) (LoE ky p q st Q (B+1)) st':=by
 obtain⟨y,ey,my⟩:=some_at I.a2;obtain⟨v,ev,mv⟩:=some_at (Nat.lt_of_succ_lt I.a1);refine wpS_bind (wpS_elem ey (wpS_bind (wpS_elem ev (wpS_bind (F.hL y v st' _ (F.gq _ my) (F.gp _ mv) (I.S.k.trans F.hk) ?_)))));cases eb:O.blt (ky y) (ky v)with
 | true=>
   refine wpS_bind (wpS_elem ey ?_);have J:=I.J.b1 F.sp F.sq ev ey (Le.of_lt eb);refine wpS_ite (fun c=>wpS_pure (.inl ⟨_,_,rfl,F.f1 _ _ _ _ I.S J (.inr (Nat.le_of_eq (of_beq c).symm))⟩)) (fun c=>?_);have K:LoI ky p q st (B+1) (o.push y) i (j+1) st':=⟨I.S,J,I.a1,Nat.lt_of_le_of_ne I.a2 (of_nbeq c),Nat.succ_le_succ I.a3⟩;exact wpS_ite (fun _=>wpS_pure (.inr ⟨_,_,_,_,_,rfl,K⟩)) fun _=>wpS_pure ⟨_,_,_,_,_,rfl,K⟩
 | false=>
   refine wpS_bind (wpS_elem ev ?_);have J:=I.J.a1 F.sp F.sq ev ey (Le.of_not eb);refine wpS_ite (fun c=>wpS_pure (.inl ⟨_,_,rfl,F.f2 _ _ _ _ I.S J (of_beq c)⟩)) (fun c=>?_);have a3:=I.a3;have K:LoI ky p q st (B+1) (o.push v) (i+1) j st':=⟨I.S,J,Nat.lt_of_le_of_ne I.a1 (of_nbeq c),I.a2,by omega⟩
   exact wpS_ite (fun _=>wpS_pure (.inr ⟨_,_,_,_,_,rfl,K⟩)) fun _=>wpS_pure ⟨_,_,_,_,_,rfl,K⟩
noncomputable def LoX(ky:Keyed->O.α)(p q:Array Keyed)(st:SortSt)(Q:Array Keyed->SortSt->Prop)(B:Nat)(r:ForInStep MS1)(st':SortSt):Prop:=match r with
 | .done c=>∃ r z,c=(some r,z)/\Q r st'
 | .yield c=>∃ o i j mg,c=(none,o,i,j,mg)/\LoI ky p q st B o i j st'
theorem LoI.mono{B C:Nat}{o:Array Keyed}{i j:Nat}(I:LoI ky p q st B o i j st')(h:C<=B):LoI ky p q st C o i j st':=⟨I.S,I.J,I.a1,I.a2,Nat.le_trans h I.a3⟩
theorem wpS_loO(F:LoF prog w A E s ky good kd p q st Q){o:Array Keyed}{i j mg:Nat}(I:LoI ky p q st B o i j st'):wpS (model prog w) A E s (loO p q (none,o,i,j,mg)) (LoX ky p q st Q (B+1)) st':=by
 have tt:0 < p.size+q.size:=Nat.add_pos_right _ (Nat.lt_of_le_of_lt (Nat.zero_le _) I.a2);refine wpS_bind (wpS_mono (wpS_forRange (I:=fun x c st'=>∃ o i j ac bc,c=(none,o,i,j,ac,bc)/\LoI ky p q st (B+x) o i j st')
  (Q:=fun c st'=>(∃ r z,c=(some r,z)/\Q r st') ∨ ∃ o i j ac bc,c=(none,o,i,j,ac,bc)/\LoI ky p q st (B+1) o i j st') ?_ ?_ ⟨o,i,j,0,0,rfl,I⟩) ?_)
 · rintro x c st2 _ _ ⟨o,i,j,ac,bc,rfl,I⟩
   refine wpS_mono (wpS_loA F I) fun r st3 h=>?_;cases r with
   | done c=>exact h.imp id fun⟨o,i,j,ac,bc,e,I⟩=>⟨o,i,j,ac,bc,e,I.mono (by omega)⟩
   | yield c=>exact h
 · rintro c st2 ⟨o,i,j,ac,bc,rfl,I⟩
   exact .inr ⟨o,i,j,ac,bc,rfl,I.mono (by omega)⟩
 rintro c st2 (⟨r,z,rfl,hq⟩ | ⟨o,i,j,ac,bc,rfl,I⟩)
 · exact wpS_pure ⟨_,_,rfl,hq⟩
 refine wpS_bind (wpS_lift (wpAny_rule ⟨rfl,?_⟩));refine wpS_bind (wpS_mono (wpS_forRange (I:=fun x c st'=>∃ o i j mg ac bc,c=(none,o,i,j,mg,ac,bc)/\LoI ky p q st (B+1) o i j st') (Q:=LoD ky p q st Q (B+1)) ?_ (fun c st' h=>.inr h) ⟨o,i,j,_,ac,bc,rfl,I⟩) ?_)
 · rintro x c st3 _ _ ⟨o,i,j,mg,ac,bc,rfl,I⟩
   refine wpS_mono (wpS_loL F I) fun r st4 h=>?_;cases r with
   | done c=>exact h
   | yield c=>exact h
 rintro c st3 (⟨r,z,rfl,hq⟩ | ⟨o,i,j,mg,ac,bc,rfl,I⟩)
 · exact wpS_pure ⟨_,_,rfl,hq⟩
 exact wpS_bind (wpS_setG I.S fun st4 S4=>wpS_pure ⟨o,i,j,_,rfl,S4,I.J,I.a1,I.a2,I.a3⟩)
theorem wpS_mergeLo(hL:LtOk prog w A E s O ky good kd)(hk:kindOf st=kd)(gp:∀ x∈p.toList,good x)(gq:∀ x∈q.toList,good x)(sp:Srd ky p.toList)(sq:Srd ky q.toList)(p0:0 < p.size)(q0:0 < q.size)
 (h0:∀ x y,p[0]?=some x->q[0]?=some y->Le ky y x) (hl:∀ x∈q.toList,∀ y,p[p.size - 1]?=some y->Le ky x y) (hQ:∀ r st',SmS st st'->Mgd ky p.toList q.toList r.toList->Q r st') :
 wpS (model prog w) A E s (mergeLoX p q) Q st:=by
 have F:LoF prog w A E s ky good kd p q st Q:=⟨hL,hk,gp,gq,sp,sq,fun o i j st' S J h=>hQ _ _ S (by
  unfold fin1L;rw[Array.toList_append,Array.toList_append,ext_end,ext_end];exact J.fin1 sp sq (by rw[Array.length_toList,Array.length_toList];exact h)),fun o i j st' S J h=>hQ _ _ S (by
  unfold fin2L;rw[Array.toList_append,Array.toList_append,ext_end,ext_end];refine J.fin2 sp sq fun x hx y hy=>?_;obtain⟨k,k1,k2⟩:=mem_drop_get hy;have k3:=(List.getElem?_eq_some_iff.mp k2).1;rw[Array.length_toList]at k3;obtain rfl:k=p.size - 1:=by omega
  exact hl x hx y (list_at k2))⟩
 rw[mergeLoX_eq];refine wpS_bind (wpS_lift (wpAny_rule ⟨rfl,?_⟩));obtain⟨y0,e0,m0⟩:=some_at q0;obtain⟨x0,d0,_⟩:=some_at p0;refine wpS_bind (wpS_elem e0 ?_);have J0:JL ky p.toList q.toList (#[y0]:Array Keyed).toList 0 1:=by
  have:JL ky p.toList q.toList (#[]:Array Keyed).toList 0 0:=⟨by rw[List.take_zero,List.take_zero];exact List.Perm.refl _,List.Pairwise.nil,fun x hx=>nomatch hx⟩
  exact this.b1 sp sq d0 e0 (h0 _ _ d0 e0)
 refine wpS_ite (fun c=>wpS_pure (F.f1 _ _ _ _ (SmS.rfl' st) J0 (.inr (Nat.le_of_eq (of_beq c).symm)))) (fun c1=>?_);refine wpS_ite (fun c=>wpS_pure (F.f2 _ _ _ _ (SmS.rfl' st) J0 (of_beq c))) (fun c2=>?_);have n1:=of_nbeq c1;have n2:=of_nbeq c2;refine wpS_bind (wpS_get (wpS_bind (wpS_mono (wpS_forRange (I:=fun x c st'=>∃ o i j mg,c=(none,o,i,j,mg)/\LoI ky p q st (x+1) o i j st') (Q:=fun c st'=>∃ r z,c=(some r,z)/\Q r st') ?_ ?_ ⟨_,0,1,_,rfl,SmS.rfl' st,J0,by omega,by omega,Nat.le_refl _⟩) ?_)))
 · rintro x c st1 _ hx ⟨o,i,j,mg,rfl,I⟩
   refine wpS_mono (wpS_loO F I) fun r st4 h=>?_;cases r with
   | done c=>exact h
   | yield c=>exact h
 · rintro c st' ⟨o,i,j,mg,rfl,I⟩
   have:=I.a1;have:=I.a2;have:=I.a3;omega
 rintro c st' ⟨r,z,rfl,hq⟩;exact wpS_pure hq
end
noncomputable abbrev HSt:=Option (Array Keyed)×Nat×Nat×Array Keyed×Nat×Nat×Nat
noncomputable abbrev HS2:=Option (Array Keyed)×Nat×Nat×Array Keyed×Nat×Nat
noncomputable abbrev HS1:=Option (Array Keyed)×Nat×Nat×Array Keyed×Nat
section
variable(p q:Array Keyed)
noncomputable def fin1H(o:Array Keyed)(i j:Nat):Array Keyed:=p.extract 0 i++q.extract 0 j++o.reverse
noncomputable def fin2H(o:Array Keyed)(i j:Nat):Array Keyed:=q.extract 0 j++p.extract 0 i++o.reverse
noncomputable def hiC(o:Array Keyed)(i j mg k l:Nat):StateT SortSt Sem (ForInStep HSt):=do
 let x ← elem' p (i - 1)
 if(i - 1 == 0)=true then pure (.done (some (fin1H p q (o.push x) (i - 1) j),i - 1,j,o.push x,mg,k,l))
 else if(decide (k < 7) && decide (l < 7))=true then pure (.done (none,i - 1,j,o.push x,mg,k,l))else pure (.yield (none,i - 1,j,o.push x,mg,k,l))
noncomputable def hiB(o:Array Keyed)(i j mg k bc:Nat):StateT SortSt Sem (ForInStep HSt):=do
 let y ← elem' q (j - 1)
 if(j - 1 == 1)=true then pure (.done (some (fin2H p q (o.push y) i (j - 1)),i,j - 1,o.push y,mg,k,bc))
 else do
  let v ← elem' p (i - 1)
  let z ← gallopX true v q 0 (j - 1) (j - 1 - 1)
  match z with
  | some t=>
    if j - 1 - t > 0 then
     if(t == 1)=true then pure (.done (some (fin2H p q (o.push y++(q.extract t (j - 1)).reverse) i t),i,t,o.push y++(q.extract t (j - 1)).reverse,mg,k,j - 1 - t))
     else if(t == 0)=true then pure (.done (some (fin1H p q (o.push y++(q.extract t (j - 1)).reverse) i t),i,t,o.push y++(q.extract t (j - 1)).reverse,mg,k,j - 1 - t))
     else hiC p q (o.push y++(q.extract t (j - 1)).reverse) i t mg k (j - 1 - t)
    else hiC p q (o.push y) i (j - 1) mg k (j - 1 - t)
  | _=>pure (.done (some (fin1H p q (o.push y) i (j - 1)),i,j - 1,o.push y,mg,k,bc))
noncomputable def hiG(o:Array Keyed)(i j mg ac bc:Nat):StateT SortSt Sem (ForInStep HSt):=do
 setGalX mg
 let y ← elem' q (j - 1)
 let z ← gallopX false y p 0 i (i - 1)
 match z with
 | some t=>
   if i - t > 0 then
    if(t == 0)=true then pure (.done (some (fin1H p q (o++(p.extract t i).reverse) t j),t,j,o++(p.extract t i).reverse,mg,i - t,bc))
    else hiB p q (o++(p.extract t i).reverse) t j mg (i - t) bc
   else hiB p q o i j mg (i - t) bc
 | _=>pure (.done (some (fin1H p q o i j),i,j,o,mg,ac,bc))
noncomputable def hiL(c:HSt):StateT SortSt Sem (ForInStep HSt):=
 if c.2.2.2.2.1 > 1 then hiG p q c.2.2.2.1 c.2.1 c.2.2.1 (c.2.2.2.2.1 - 1) c.2.2.2.2.2.1 c.2.2.2.2.2.2 else hiG p q c.2.2.2.1 c.2.1 c.2.2.1 c.2.2.2.2.1 c.2.2.2.2.2.1 c.2.2.2.2.2.2
noncomputable def hiA(mg:Nat)(c:HS2):StateT SortSt Sem (ForInStep HS2):=do
 let y ← elem' q (c.2.2.1 - 1)
 let v ← elem' p (c.2.1 - 1)
 let z ← lt' y v
 match z with
 | some aw=>
   if aw=true then do
    let v ← elem' p (c.2.1 - 1)
    if(c.2.1 - 1 == 0)=true then pure (.done (some (fin1H p q (c.2.2.2.1.push v) (c.2.1 - 1) c.2.2.1),c.2.1 - 1,c.2.2.1,c.2.2.2.1.push v,c.2.2.2.2.1+1,0))
    else if c.2.2.2.2.1+1 ≥ mg then pure (.done (none,c.2.1 - 1,c.2.2.1,c.2.2.2.1.push v,c.2.2.2.2.1+1,0))else pure (.yield (none,c.2.1 - 1,c.2.2.1,c.2.2.2.1.push v,c.2.2.2.2.1+1,0))
   else do
    let y ← elem' q (c.2.2.1 - 1)
    if(c.2.2.1 - 1 == 1)=true then pure (.done (some (fin2H p q (c.2.2.2.1.push y) c.2.1 (c.2.2.1 - 1)),c.2.1,c.2.2.1 - 1,c.2.2.2.1.push y,0,c.2.2.2.2.2+1))
    else if c.2.2.2.2.2+1 ≥ mg then pure (.done (none,c.2.1,c.2.2.1 - 1,c.2.2.2.1.push y,0,c.2.2.2.2.2+1))else pure (.yield (none,c.2.1,c.2.2.1 - 1,c.2.2.2.1.push y,0,c.2.2.2.2.2+1))
 | _=>pure (.done (some (fin1H p q c.2.2.2.1 c.2.1 c.2.2.1),c.2))
noncomputable def hiO(c:HS1):StateT SortSt Sem (ForInStep HS1):=do
 let c1 ← forIn [:p.size+q.size] ((none,c.2.1,c.2.2.1,c.2.2.2.1,0,0):HS2) fun _=>hiA p q c.2.2.2.2
 match c1.1 with
 | some r=>pure (.done (some r,c1.2.1,c1.2.2.1,c1.2.2.2.1,c.2.2.2.2))
 | none=>do
   liftM (rule "list.sort.gallop")
   let c2 ← forIn [:p.size+q.size] ((none,c1.2.1,c1.2.2.1,c1.2.2.2.1,c.2.2.2.2+1,c1.2.2.2.2.1,c1.2.2.2.2.2):HSt) fun _=>hiL p q
   match c2.1 with
   | some r=>pure (.done (some r,c2.2.1,c2.2.2.1,c2.2.2.2.1,c2.2.2.2.2.1))
   | none=>do
     setGalX (c2.2.2.2.2.1+1)
     pure (.yield (none,c2.2.1,c2.2.2.1,c2.2.2.2.1,c2.2.2.2.2.1+1))
noncomputable def mergeHiX:Array Keyed->Array Keyed->StateT SortSt Sem (Array Keyed):=sortPriv% PySem.Builtin.mergeHi
theorem mergeHiX_eq:mergeHiX p q=(do
 liftM (rule "list.sort.merge-hi")
 let x ← elem' p (p.size - 1)
 if(p.size - 1 == 0)=true then pure (fin1H p q #[x] (p.size - 1) q.size)
 else if(q.size == 1)=true then pure (fin2H p q #[x] (p.size - 1) q.size)
 else do
  let z ← get
  let c ← forIn [:p.size+q.size] ((none,p.size - 1,q.size,#[x],gallopOf z):HS1) fun _=>hiO p q
  match c.1 with
  | some r=>pure r
  | none=>liftM (unsupported "internal:list.sort.merge-bound")):=by kernel_rfl
end
section
variable{prog:Program}{w:World}{A:Around}{E:Value->Shared->Prop}{s:Shared}{O:KeyOrd}{ky:Keyed->O.α}{good:Keyed->Prop}{kd:SortKind}
theorem rev_ext(p:Array Keyed)(t i:Nat):(p.extract t i).reverse.toList=((p.toList.take i).drop t).reverse:=by
 rw[Array.toList_reverse,ext_list,List.drop_take]
theorem ext_0(p:Array Keyed)(i:Nat):(p.extract 0 i).toList=p.toList.take i:=by
 rw[ext_list,List.drop_zero,Nat.sub_zero]
theorem mem_td_get{l:List Keyed}{i t:Nat}{y:Keyed}(h:y∈(l.take i).drop t):∃ j,t<=j/\j < i/\l[j]?=some y:=by
 obtain⟨k,k1,k2⟩:=mem_drop_get h;have hl:=(List.getElem?_eq_some_iff.mp k2).1;rw[List.length_take]at hl;rw[List.getElem?_take_of_lt (by omega)]at k2
 exact⟨k,k1,by omega,k2⟩
theorem JH.aK{p q:Array Keyed}{o:Array Keyed}{i j t:Nat}{y:Keyed}(J:JH ky p.toList q.toList o.toList i j)(sp:Srd ky p.toList)(sq:Srd ky q.toList)(ht:t<=i)(hy:q[j - 1]?=some y)(h:∀ m x,t<=m->m < i->p[m]?=some x->Le ky y x):JH ky p.toList q.toList (o++(p.extract t i).reverse).toList t j:=by
 have:=J.a sp t ht (fun z hz u hu=>by
  obtain⟨m,m1,m2,e⟩:=mem_td_get hz;obtain⟨n,hn,e2⟩:=mem_take_get hu;exact(sq.get (by omega) e2 (at_list hy)).trans (h m z m1 m2 (list_at e)))
 rw[Array.toList_append,rev_ext];exact this
theorem JH.bK{p q:Array Keyed}{o:Array Keyed}{i j t:Nat}{x:Keyed}(J:JH ky p.toList q.toList o.toList i j)(sp:Srd ky p.toList)(sq:Srd ky q.toList)(ht:t<=j)(hx:p[i - 1]?=some x)(h:∀ m y,t<=m->m < j->q[m]?=some y->Le ky x y):JH ky p.toList q.toList (o++(q.extract t j).reverse).toList i t:=by
 have:=J.b sq t ht (fun z hz u hu=>by
  obtain⟨m,m1,m2,e⟩:=mem_td_get hz;obtain⟨n,hn,e2⟩:=mem_take_get hu;exact(sp.get (by omega) e2 (at_list hx)).trans (h m z m1 m2 (list_at e)))
 rw[Array.toList_append,rev_ext];exact this
theorem ext_1{p:Array Keyed}{i:Nat}{x:Keyed}(h:p[i]?=some x):(p.extract i (i+1)).reverse.toList=[x]:=by
 rw[rev_ext,take_one (at_list h)]
 rfl
theorem JH.a1{p q:Array Keyed}{o:Array Keyed}{i j:Nat}{x y:Keyed}(J:JH ky p.toList q.toList o.toList i j)(sp:Srd ky p.toList)(sq:Srd ky q.toList)(hi:1<=i)(hx:p[i - 1]?=some x)(hy:q[j - 1]?=some y)(h:Le ky y x):JH ky p.toList q.toList (o.push x).toList (i - 1) j:=by
 have:=J.aK (t:=i - 1) sp sq (by omega) hy fun m z m1 m2 e=>by
  obtain rfl:m=i - 1:=by omega
  rw[hx]at e;cases e;exact h
 have e:=ext_1 hx;rw[Nat.sub_add_cancel hi]at e;rw[Array.toList_append,e]at this;rw[Array.toList_push];exact this
theorem JH.b1{p q:Array Keyed}{o:Array Keyed}{i j:Nat}{x y:Keyed}(J:JH ky p.toList q.toList o.toList i j)(sp:Srd ky p.toList)(sq:Srd ky q.toList)(hj:1<=j)(hx:p[i - 1]?=some x)(hy:q[j - 1]?=some y)(h:Le ky x y):JH ky p.toList q.toList (o.push y).toList i (j - 1):=by
 have:=J.bK (t:=j - 1) sp sq (by omega) hx fun m z m1 m2 e=>by
  obtain rfl:m=j - 1:=by omega
  rw[hy]at e;cases e;exact h
 have e:=ext_1 hy;rw[Nat.sub_add_cancel hj]at e;rw[Array.toList_append,e]at this;rw[Array.toList_push];exact this
structure HiF(prog:Program)(w:World)(A:Around)(E:Value->Shared->Prop)(s:Shared){O:KeyOrd}(ky:Keyed->O.α)(good:Keyed->Prop)(kd:SortKind)(p q:Array Keyed)(st:SortSt)(Q:Array Keyed->SortSt->Prop):Prop where
 hL:LtOk prog w A E s O ky good kd
 hk:kindOf st=kd
 gp:∀ x∈p.toList,good x
 gq:∀ x∈q.toList,good x
 sp:Srd ky p.toList
 sq:Srd ky q.toList
 f1:∀(o:Array Keyed) (i j:Nat) (st':SortSt),SmS st st'->JH ky p.toList q.toList o.toList i j->(i=0∨j=0)->Q (fin1H p q o i j) st'
 f2:∀(o:Array Keyed) (i j:Nat) (st':SortSt),SmS st st'->JH ky p.toList q.toList o.toList i j->j=1->Q (fin2H p q o i j) st'
structure HiI(ky:Keyed->O.α)(p q:Array Keyed)(st:SortSt)(B:Nat)(o:Array Keyed)(i j:Nat)(st':SortSt):Prop where
 S:SmS st st'
 J:JH ky p.toList q.toList o.toList i j
 a1:1<=i
 a2:2<=j
 z1:i<=p.size
 z2:j<=q.size
 a3:i+j+B<=p.size+q.size
variable{p q:Array Keyed}{st st':SortSt}{Q:Array Keyed->SortSt->Prop}{B:Nat}
noncomputable def HiD(ky:Keyed->O.α)(p q:Array Keyed)(st:SortSt)(Q:Array Keyed->SortSt->Prop)(B:Nat)(c:HSt)(st':SortSt):Prop:=(∃ r z,c=(some r,z)/\Q r st') ∨ ∃ i j o mg ac bc,c=(none,i,j,o,mg,ac,bc)/\HiI ky p q st B o i j st'
noncomputable def HiR(ky:Keyed->O.α)(p q:Array Keyed)(st:SortSt)(Q:Array Keyed->SortSt->Prop)(B:Nat)(r:ForInStep HSt)(st':SortSt):Prop:=match r with
 | .done c=>HiD ky p q st Q B c st'
 | .yield c=>∃ i j o mg ac bc,c=(none,i,j,o,mg,ac,bc)/\HiI ky p q st B o i j st'
theorem wpS_hiC(F:HiF prog w A E s ky good kd p q st Q){o:Array Keyed}{i j mg k l:Nat}{v:Keyed}(I:HiI ky p q st B o i j st')(ev:p[i - 1]?=some v)(h:∀ y,q[j - 1]?=some y->Le ky y v):wpS (model prog w) A E s (hiC p q o i j mg k l) (HiR ky p q st Q B) st':=by
 have a1:=I.a1;have a2:=I.a2;have z1:=I.z1;have z2:=I.z2;have a3:=I.a3;obtain⟨y,ey,_⟩:=some_at (p:=q) (i:=j - 1) (by omega)
 have J:=I.J.a1 F.sp F.sq a1 ev ey (h y ey);refine wpS_bind (wpS_elem ev ?_);refine wpS_ite (fun c=>wpS_pure (.inl ⟨_,_,rfl,F.f1 _ _ _ _ I.S J (.inl (of_beq c))⟩)) (fun c=>?_);have n:=of_nbeq c;have K:HiI ky p q st B (o.push v) (i - 1) j st':=⟨I.S,J,by omega,a2,by omega,z2,by omega⟩
 exact wpS_ite (fun _=>wpS_pure (.inr ⟨_,_,_,_,_,_,rfl,K⟩)) fun _=>wpS_pure ⟨_,_,_,_,_,_,rfl,K⟩
theorem wpS_hiB(F:HiF prog w A E s ky good kd p q st Q){o:Array Keyed}{i j mg k bc:Nat}{y:Keyed}(I:HiI ky p q st B o i j st')(ey:q[j - 1]?=some y)(h:∀ v,p[i - 1]?=some v->Le ky v y):wpS (model prog w) A E s (hiB p q o i j mg k bc) (HiR ky p q st Q B) st':=by
 have a1:=I.a1;have a2:=I.a2;have z1:=I.z1;have z2:=I.z2;have a3:=I.a3;obtain⟨v,ev,mv⟩:=some_at (p:=p) (i:=i - 1) (by omega)
 have J:=I.J.b1 F.sp F.sq (Nat.le_of_succ_le a2) ev ey (h v ev);refine wpS_bind (wpS_elem ey ?_);refine wpS_ite (fun c=>wpS_pure (.inl ⟨_,_,rfl,F.f2 _ _ _ _ I.S J (of_beq c)⟩)) (fun c=>?_);have n:=of_nbeq c;refine wpS_bind (wpS_elem ev (wpS_bind (wpS_gal F.hL (I.S.k.trans F.hk) (F.gp _ mv) F.gq (fun i' j' x y _ h2 _ ex ey=>F.sq.at h2 ex ey) (by omega) (by omega) fun l l1 l2 l3=>?_)))
 have l4:1<=l -> ∀ y,q[l - 1]?=some y->Le ky y v:=fun h y e=>Le.of_lt ((l2 (l - 1) y (Nat.zero_le _) (by omega) e).1 rfl)
 refine wpS_ite (fun g=>?_) (fun g=>?_)
 · have J4:=J.bK (t:=l) F.sp F.sq l1 ev fun m x h1 h2 e=>(l3 m x (by omega) (by omega) e).1 rfl
   refine wpS_ite (fun c=>wpS_pure (.inl ⟨_,_,rfl,F.f2 _ _ _ _ I.S J4 (of_beq c)⟩)) (fun c6=>?_);refine wpS_ite (fun c=>wpS_pure (.inl ⟨_,_,rfl,F.f1 _ _ _ _ I.S J4 (.inr (of_beq c))⟩)) (fun c9=>?_);have n6:=of_nbeq c6;have n9:=of_nbeq c9;exact wpS_hiC F ⟨I.S,J4,a1,by omega,z1,by omega,by omega⟩ ev (l4 (by omega))
 obtain rfl:l=j - 1:=by omega
 exact wpS_hiC F ⟨I.S,J,a1,by omega,z1,by omega,by omega⟩ ev (l4 (by omega))
theorem wpS_hiG(F:HiF prog w A E s ky good kd p q st Q){o:Array Keyed}{i j mg ac bc:Nat}(I:HiI ky p q st B o i j st'):wpS (model prog w) A E s (hiG p q o i j mg ac bc) (HiR ky p q st Q B) st':=by
 have a1:=I.a1;have a2:=I.a2;have z1:=I.z1;have z2:=I.z2;have a3:=I.a3;obtain⟨y,ey,my⟩:=some_at (p:=q) (i:=j - 1) (by omega)
 refine wpS_bind (wpS_setG I.S fun st3 S3=>?_);refine wpS_bind (wpS_elem ey (wpS_bind (wpS_gal F.hL (S3.k.trans F.hk) (F.gq _ my) F.gp (fun i' j' x y _ h2 _ ex ey=>F.sp.at h2 ex ey) (by omega) (by omega) fun t k1 k2 k3=>?_)))
 have k4:1<=t -> ∀ v,p[t - 1]?=some v->Le ky v y:=fun h v e=>(k2 (t - 1) v (Nat.zero_le _) (by omega) e).2 rfl
 refine wpS_ite (fun g=>?_) (fun g=>?_)
 · have J:=I.J.aK (t:=t) F.sp F.sq k1 ey fun m x h1 h2 e=>Le.of_lt ((k3 m x (by omega) (by omega) e).2 rfl)
   refine wpS_ite (fun c=>wpS_pure (.inl ⟨_,_,rfl,F.f1 _ _ _ _ S3 J (.inl (of_beq c))⟩)) (fun c=>?_);have n:=of_nbeq c;exact wpS_hiB F ⟨S3,J,by omega,a2,by omega,z2,by omega⟩ ey (k4 (by omega))
 obtain rfl:t=i:=by omega
 exact wpS_hiB F ⟨S3,I.J,a1,a2,z1,z2,a3⟩ ey (k4 a1)
theorem wpS_hiL(F:HiF prog w A E s ky good kd p q st Q){o:Array Keyed}{i j mg ac bc:Nat}(I:HiI ky p q st B o i j st'):wpS (model prog w) A E s (hiL p q (none,i,j,o,mg,ac,bc)) (HiR ky p q st Q B) st':=
 wpS_ite (fun _=>wpS_hiG F I) fun _=>wpS_hiG F I
noncomputable def HiE(ky:Keyed->O.α)(p q:Array Keyed)(st:SortSt)(Q:Array Keyed->SortSt->Prop)(B:Nat)(r:ForInStep HS2)(st':SortSt):Prop:=match r with
 | .done c=>(∃ r z,c=(some r,z)/\Q r st') ∨ ∃ i j o ac bc,c=(none,i,j,o,ac,bc)/\HiI ky p q st B o i j st'
 | .yield c=>∃ i j o ac bc,c=(none,i,j,o,ac,bc)/\HiI ky p q st B o i j st'
theorem wpS_hiA(F:HiF prog w A E s ky good kd p q st Q){o:Array Keyed}{i j mg ac bc:Nat}(I:HiI ky p q st B o i j st'):wpS (model prog w) A E s (hiA p q mg (none,i,j,o,ac,bc)) (HiE ky p q st Q (B+1)) st':=by
 have a1:=I.a1;have a2:=I.a2;have z1:=I.z1;have z2:=I.z2;have a3:=I.a3;obtain⟨y,ey,my⟩:=some_at (p:=q) (i:=j - 1) (by omega)
 obtain⟨v,ev,mv⟩:=some_at (p:=p) (i:=i - 1) (by omega)
 refine wpS_bind (wpS_elem ey (wpS_bind (wpS_elem ev (wpS_bind (F.hL y v st' _ (F.gq _ my) (F.gp _ mv) (I.S.k.trans F.hk) ?_)))));cases eb:O.blt (ky y) (ky v)with
 | true=>
   refine wpS_bind (wpS_elem ev ?_);have J:=I.J.a1 F.sp F.sq a1 ev ey (Le.of_lt eb);refine wpS_ite (fun c=>wpS_pure (.inl ⟨_,_,rfl,F.f1 _ _ _ _ I.S J (.inl (of_beq c))⟩)) (fun c=>?_);have n:¬ i - 1=0:=of_nbeq c;have K:HiI ky p q st (B+1) (o.push v) (i - 1) j st':=⟨I.S,J,by omega,a2,by omega,z2,by omega⟩
   exact wpS_ite (fun _=>wpS_pure (.inr ⟨_,_,_,_,_,rfl,K⟩)) fun _=>wpS_pure ⟨_,_,_,_,_,rfl,K⟩
 | false=>
   refine wpS_bind (wpS_elem ey ?_);have J:=I.J.b1 F.sp F.sq (Nat.le_of_succ_le a2) ev ey (Le.of_not eb);refine wpS_ite (fun c=>wpS_pure (.inl ⟨_,_,rfl,F.f2 _ _ _ _ I.S J (of_beq c)⟩)) (fun c=>?_);have n:¬ j - 1=1:=of_nbeq c;have K:HiI ky p q st (B+1) (o.push y) i (j - 1) st':=⟨I.S,J,a1,by omega,z1,by omega,by omega⟩
   exact wpS_ite (fun _=>wpS_pure (.inr ⟨_,_,_,_,_,rfl,K⟩)) fun _=>wpS_pure ⟨_,_,_,_,_,rfl,K⟩
noncomputable def HiX(ky:Keyed->O.α)(p q:Array Keyed)(st:SortSt)(Q:Array Keyed->SortSt->Prop)(B:Nat)(r:ForInStep HS1)(st':SortSt):Prop:=match r with
 | .done c=>∃ r z,c=(some r,z)/\Q r st'
 | .yield c=>∃ i j o mg,c=(none,i,j,o,mg)/\HiI ky p q st B o i j st'
theorem HiI.mono{B C:Nat}{o:Array Keyed}{i j:Nat}(I:HiI ky p q st B o i j st')(h:C<=B):HiI ky p q st C o i j st':=⟨I.S,I.J,I.a1,I.a2,I.z1,I.z2,Nat.le_trans (Nat.add_le_add_left h _) I.a3⟩
theorem wpS_hiO(F:HiF prog w A E s ky good kd p q st Q){o:Array Keyed}{i j mg:Nat}(I:HiI ky p q st B o i j st'):wpS (model prog w) A E s (hiO p q (none,i,j,o,mg)) (HiX ky p q st Q (B+1)) st':=by
 have tt:0 < p.size+q.size:=Nat.add_pos_left (Nat.lt_of_lt_of_le I.a1 I.z1) _;refine wpS_bind (wpS_mono (wpS_forRange (I:=fun x c st'=>∃ i j o ac bc,c=(none,i,j,o,ac,bc)/\HiI ky p q st (B+x) o i j st')
  (Q:=fun c st'=>(∃ r z,c=(some r,z)/\Q r st') ∨ ∃ i j o ac bc,c=(none,i,j,o,ac,bc)/\HiI ky p q st (B+1) o i j st') ?_ ?_ ⟨i,j,o,0,0,rfl,I⟩) ?_)
 · rintro x c st2 _ _ ⟨i,j,o,ac,bc,rfl,I⟩
   refine wpS_mono (wpS_hiA F I) fun r st3 h=>?_;cases r with
   | done c=>exact h.imp id fun⟨i,j,o,ac,bc,e,I⟩=>⟨i,j,o,ac,bc,e,I.mono (by omega)⟩
   | yield c=>exact h
 · rintro c st2 ⟨i,j,o,ac,bc,rfl,I⟩
   exact .inr ⟨i,j,o,ac,bc,rfl,I.mono (by omega)⟩
 rintro c st2 (⟨r,z,rfl,hq⟩ | ⟨i,j,o,ac,bc,rfl,I⟩)
 · exact wpS_pure ⟨_,_,rfl,hq⟩
 refine wpS_bind (wpS_lift (wpAny_rule ⟨rfl,?_⟩));refine wpS_bind (wpS_mono (wpS_forRange (I:=fun x c st'=>∃ i j o mg ac bc,c=(none,i,j,o,mg,ac,bc)/\HiI ky p q st (B+1) o i j st') (Q:=HiD ky p q st Q (B+1)) ?_ (fun c st' h=>.inr h) ⟨i,j,o,_,ac,bc,rfl,I⟩) ?_)
 · rintro x c st3 _ _ ⟨i,j,o,mg,ac,bc,rfl,I⟩
   refine wpS_mono (wpS_hiL F I) fun r st4 h=>?_;cases r with
   | done c=>exact h
   | yield c=>exact h
 rintro c st3 (⟨r,z,rfl,hq⟩ | ⟨i,j,o,mg,ac,bc,rfl,I⟩)
 · exact wpS_pure ⟨_,_,rfl,hq⟩
 exact wpS_bind (wpS_setG I.S fun st4 S4=>wpS_pure ⟨i,j,o,_,rfl,S4,I.J,I.a1,I.a2,I.z1,I.z2,I.a3⟩)
theorem wpS_mergeHi(hL:LtOk prog w A E s O ky good kd)(hk:kindOf st=kd)(gp:∀ x∈p.toList,good x)(gq:∀ x∈q.toList,good x)(sp:Srd ky p.toList)(sq:Srd ky q.toList)(p0:0 < p.size)(q0:0 < q.size)
 (h0:∀ y,q[0]?=some y -> ∀ x∈p.toList,Le ky y x) (hl:∀ x y,p[p.size - 1]?=some x->q[q.size - 1]?=some y->Le ky y x) (hQ:∀ r st',SmS st st'->Mgd ky p.toList q.toList r.toList->Q r st') :
 wpS (model prog w) A E s (mergeHiX p q) Q st:=by
 have F:HiF prog w A E s ky good kd p q st Q:=⟨hL,hk,gp,gq,sp,sq,fun o i j st' S J h=>hQ _ _ S (by
  unfold fin1H;rw[Array.toList_append,Array.toList_append,ext_0,ext_0,Array.toList_reverse];exact J.fin1 sp sq h),fun o i j st' S J h=>hQ _ _ S (by
  unfold fin2H;rw[Array.toList_append,Array.toList_append,ext_0,ext_0,Array.toList_reverse];refine J.fin2 sp sq fun x hx y hy=>?_;obtain⟨k,k1,k2⟩:=mem_take_get hx;obtain rfl:k=0:=by omega
  exact h0 x (list_at k2) y hy)⟩
 rw[mergeHiX_eq];refine wpS_bind (wpS_lift (wpAny_rule ⟨rfl,?_⟩));obtain⟨x0,d0,m0⟩:=some_at (p:=p) (i:=p.size - 1) (by omega)
 obtain⟨y0,e0,_⟩:=some_at (p:=q) (i:=q.size - 1) (by omega)
 refine wpS_bind (wpS_elem d0 ?_);have J0:JH ky p.toList q.toList (#[x0]:Array Keyed).toList (p.size - 1) q.size:=by
  have:JH ky p.toList q.toList (#[]:Array Keyed).toList p.size q.size:=⟨by rw[List.drop_of_length_le (by simp),List.drop_of_length_le (by simp)];exact List.Perm.refl _,List.Pairwise.nil,fun x hx=>nomatch hx⟩
  exact this.a1 sp sq p0 d0 e0 (hl _ _ d0 e0)
 refine wpS_ite (fun c=>wpS_pure (F.f1 _ _ _ _ (SmS.rfl' st) J0 (.inl (of_beq c)))) (fun c1=>?_);refine wpS_ite (fun c=>wpS_pure (F.f2 _ _ _ _ (SmS.rfl' st) J0 (of_beq c))) (fun c2=>?_);have n1:=of_nbeq c1;have n2:=of_nbeq c2;refine wpS_bind (wpS_get (wpS_bind (wpS_mono (wpS_forRange (I:=fun x c st'=>∃ i j o mg,c=(none,i,j,o,mg)/\HiI ky p q st (x+1) o i j st') (Q:=fun c st'=>∃ r z,c=(some r,z)/\Q r st') ?_ ?_ ⟨_,_,_,_,rfl,SmS.rfl' st,J0,by omega,by omega,by omega,Nat.le_refl _,by omega⟩) ?_)))
 · rintro x c st1 _ hx ⟨i,j,o,mg,rfl,I⟩
   refine wpS_mono (wpS_hiO F I) fun r st4 h=>?_;cases r with
   | done c=>exact h
   | yield c=>exact h
 · rintro c st' ⟨i,j,o,mg,rfl,I⟩
   have:=I.a1;have:=I.a3;omega
 rintro c st' ⟨r,z,rfl,hq⟩;exact wpS_pure hq
end
theorem mergeAtX_eq(i:Nat):mergeAt' i=(do
 let z ← get
 let(some (sa,na,pw),some (sb,nb,_)):=((pendingOf z)[i]?,(pendingOf z)[i+1]?) | unsupported "internal:list.sort.pending"
 set (setPending z (((pendingOf z).setIfInBounds i (sa,na+nb,pw)).eraseIdxIfInBounds (i+1)))
 let some k ← gallopX false (← elem' (arrOf z) sb) (arrOf z) sa na 0 | return false
 let(sa,na):=(sa+k,na - k)
 if na == 0 then return true
 let some nb ← gallopX true (← elem' (arrOf z) (sa+na - 1)) (arrOf z) sb nb (nb - 1) | return false
 if nb == 0 then return true
 let x:=(arrOf z).extract sa sb
 let y:=(arrOf z).extract sb (sb+nb)
 let mm ← if na<=nb then mergeLoX x y else mergeHiX x y
 modify fun u=>setArr u (mm.toList.zipIdx.foldl (fun a (e,j)=>a.setIfInBounds (sa+j) e) (arrOf u))
 return(failedOf (← get)).isNone):=rfl
noncomputable def rlay:Nat->List (List Keyed)->List (Nat×Nat)
 | _,[]=>[]
 | s,r::rs=>(s,r.length)::rlay (s+r.length) rs
theorem rlay_app:∀(u v:List (List Keyed)) (s:Nat),rlay s (u++v)=rlay s u++rlay (s+u.flatten.length) v
 | [],v,s=>by simp[rlay]
 | r::u,v,s=>by
   show(s,r.length)::rlay (s+r.length) (u++v)=(s,r.length)::(rlay (s+r.length) u++_);rw[rlay_app u v,List.flatten_cons,List.length_append,Nat.add_assoc]
theorem rlay_len:∀(u:List (List Keyed)) (s:Nat),(rlay s u).length=u.length
 | [],s=>rfl
 | r::u,s=>by show(rlay _ u).length+1=_;rw[rlay_len u];rfl
theorem wr_at(b:Nat):∀(m:List Keyed) (n:Nat) (xs:Array Keyed),b+n+m.length<=xs.size->((m.zipIdx n).foldl (fun a (e,j)=>a.setIfInBounds (b+j) e) xs).toList=xs.toList.take (b+n)++m++xs.toList.drop (b+n+m.length)
 | [],n,xs,h=>by simp
 | x::m,n,xs,h=>by
   rw[List.zipIdx_cons,List.foldl_cons];rw[List.length_cons]at h;have ih:=wr_at b m (n+1) (xs.setIfInBounds (b+n) x) (by rw[Array.size_setIfInBounds];omega)
   rw[ih,Array.toList_setIfInBounds];have hl:b+n < xs.toList.length:=by rw[Array.length_toList];omega
   have e1:(xs.toList.set (b+n) x).take (b+(n+1))=xs.toList.take (b+n)++[x]:=by
    rw[show b+(n+1)=(b+n)+1 by omega,List.take_add_one,List.take_set_of_le (Nat.le_refl _),List.getElem?_set_self hl]
    rfl
   have e2:(xs.toList.set (b+n) x).drop (b+(n+1)+m.length)=xs.toList.drop (b+n+(x::m).length):=by
    rw[List.drop_set_of_lt (by omega),List.length_cons]
    congr 1
    omega
   rw[e1,e2];simp
section
variable{prog:Program}{w:World}{A:Around}{E:Value->Shared->Prop}{s:Shared}{O:KeyOrd}{ky:Keyed->O.α}{good:Keyed->Prop}{kd:SortKind}
theorem wpS_set{α:Type}{st z:SortSt}{Q:PUnit->SortSt->Prop}(h:Q ⟨⟩ z):wpS (model prog w) A E s (set z:StateT SortSt Sem PUnit) Q st:=by
 unfold wpS;exact wpAny_pure ⟨rfl,h⟩
structure PD(ky:Keyed->O.α)(good:Keyed->Prop)(kd:SortKind)(a₀:Array Keyed)(st:SortSt)(rs:List (List Keyed))(rest:List Keyed):Prop where
 pm:(arrOf st).Perm a₀
 kd:kindOf st=kd
 fl:failedOf st=none
 eq:(arrOf st).toList=rs.flatten++rest
 pd:(pendingOf st).toList.map (fun t=>(t.1,t.2.1))=rlay 0 rs
 so:∀ r∈rs,Srd ky r/\r≠[]
 gd:∀ x∈(arrOf st).toList,good x
theorem mid_get{pre a post:List Keyed}{i:Nat}(h1:pre.length<=i)(h2:i < pre.length+a.length):(pre++a++post)[i]?=a[i - pre.length]?:=by
 rw[List.append_assoc,List.getElem?_append_right h1,List.getElem?_append_left (by omega)]
theorem pend_of{ps:List (Nat×Nat×Nat)}{u v:List (List Keyed)}{a b:List Keyed}(h:ps.map (fun t=>(t.1,t.2.1))=rlay 0 (u++a::b::v)) :
 ∃ pu pv pw pw2,ps=pu++(u.flatten.length,a.length,pw)::(u.flatten.length+a.length,b.length,pw2)::pv/\pu.length=u.length/\pu.map (fun t=>(t.1,t.2.1))=rlay 0 u/\pv.map (fun t=>(t.1,t.2.1))=rlay (u.flatten.length+a.length+b.length) v:=by
 rw[rlay_app,Nat.zero_add]at h;obtain⟨pu,pr,rfl,h1,h2⟩:=List.map_eq_append_iff.mp h;have h2:pr.map (fun t=>(t.1,t.2.1))=(u.flatten.length,a.length)::(u.flatten.length+a.length,b.length)::rlay (u.flatten.length+a.length+b.length) v:=h2;obtain⟨ta,pr2,rfl,h3,h4⟩:=List.map_eq_cons_iff.mp h2;obtain⟨tb,pv,rfl,h5,h6⟩:=List.map_eq_cons_iff.mp h4;obtain⟨ta1,ta2,ta3⟩:=ta;obtain⟨tb1,tb2,tb3⟩:=tb;cases h3;cases h5;refine⟨pu,pv,ta3,tb3,rfl,?_,h1,h6⟩;have:=congrArg List.length h1;rw[List.length_map,rlay_len]at this;exact this
theorem PD.merge{a₀:Array Keyed}{st st':SortSt}{u v:List (List Keyed)}{a b r rest:List Keyed}{pw:Nat}(P:PD ky good kd a₀ st (u++a::b::v) rest)(k1:kindOf st'=kindOf st)(f1:failedOf st'=failedOf st)
 (e1:(arrOf st').toList=u.flatten++r++(v.flatten++rest)) (pm:r.Perm (a++b)) (so:Srd ky r) (hp:∀ pu pv pa pb,(pendingOf st).toList=pu++pa::pb::pv->pu.length=u.length->(pendingOf st').toList=pu++(u.flatten.length,a.length+b.length,pw)::pv):PD ky good kd a₀ st' (u++r::v) rest:=by
 obtain⟨pu,pv,w1,w2,ep,lp,m1,m2⟩:=pend_of P.pd;have ex:(arrOf st).toList=u.flatten++(a++b)++(v.flatten++rest):=by rw[P.eq];simp
 have pml:(arrOf st').toList.Perm (arrOf st).toList:=by
  rw[e1,ex];exact List.Perm.append_right _ (List.Perm.append_left _ pm)
 have hl:r.length=a.length+b.length:=by rw[pm.length_eq,List.length_append]
 refine⟨(Array.perm_iff_toList_perm.mpr pml).trans P.pm,k1.trans P.kd,f1.trans P.fl,by rw[e1];simp,?_,fun z hz=>?_,fun x hx=>P.gd x (pml.mem_iff.mp hx)⟩
 · rw[hp pu pv _ _ ep lp,List.map_append,m1,List.map_cons,m2,rlay_app,Nat.zero_add]
   show _++(u.flatten.length,a.length+b.length)::_=_++(u.flatten.length,r.length)::rlay (u.flatten.length+r.length) v;rw[hl,Nat.add_assoc]
 rcases List.mem_append.mp hz with y | y
 · exact P.so z (List.mem_append_left _ y)
 rcases List.mem_cons.mp y with rfl | y
 · refine⟨so,fun e=>?_⟩
   subst e;have:=(P.so a (by simp)).2
   have:=List.length_pos_iff.mpr this;simp at hl;omega
 exact P.so z (by simp[y])
theorem wpS_mergeAt(hL:LtOk prog w A E s O ky good kd){a₀:Array Keyed}{st:SortSt}{u v:List (List Keyed)}{a b rest:List Keyed}{Q:Bool->SortSt->Prop}(P:PD ky good kd a₀ st (u++a::b::v) rest)
 (q:∀ r st',PD ky good kd a₀ st' (u++r::v) rest->Q true st'):wpS (model prog w) A E s (mergeAt' u.length) Q st:=by
 obtain⟨pu,pv,pw,pw2,ep,lp,_,_⟩:=pend_of P.pd;have ga:(pendingOf st)[u.length]?=some (u.flatten.length,a.length,pw):=by
  rw[← Array.getElem?_toList,ep,← lp,List.getElem?_append_right (Nat.le_refl _),Nat.sub_self];rfl
 have gb:(pendingOf st)[u.length+1]?=some (u.flatten.length+a.length,b.length,pw2):=by
  rw[← Array.getElem?_toList,ep,← lp,List.getElem?_append_right (by omega),show pu.length+1 - pu.length=1 by omega];rfl
 have hp:∀ pu' pv' pa pb,(pendingOf st).toList=pu'++pa::pb::pv'->pu'.length=u.length->(((pendingOf st).setIfInBounds u.length (u.flatten.length,a.length+b.length,pw)).eraseIdxIfInBounds (u.length+1)).toList=pu'++(u.flatten.length,a.length+b.length,pw)::pv':=fun pu' pv' pa pb e l=>by
  rw[Array.toList_eraseIdxIfInBounds,Array.toList_setIfInBounds,e,← l,List.set_append_right _ _ (Nat.le_refl _),Nat.sub_self,List.set_cons_zero,List.eraseIdx_append_of_length_le (by omega),show pu'.length+1 - pu'.length=1 by omega]
  rfl
 have sa:=(P.so a (by simp)).1
 have na:=List.length_pos_iff.mpr (P.so a (by simp)).2
 have sb:=(P.so b (by simp)).1
 have nb:=List.length_pos_iff.mpr (P.so b (by simp)).2
 have ex:(arrOf st).toList=u.flatten++(a++b)++(v.flatten++rest):=by rw[P.eq];simp
 have eA:∀ i,i < a.length->(arrOf st)[u.flatten.length+i]?=a[i]?:=fun i hi=>by
  rw[← Array.getElem?_toList,ex,mid_get (by omega) (by rw[List.length_append];omega),Nat.add_sub_cancel_left,List.getElem?_append_left hi]
 have eB:∀ i,i < b.length->(arrOf st)[u.flatten.length+a.length+i]?=b[i]?:=fun i hi=>by
  rw[← Array.getElem?_toList,ex,mid_get (by omega) (by rw[List.length_append];omega),show u.flatten.length+a.length+i - u.flatten.length=a.length+i by omega,List.getElem?_append_right (by omega),Nat.add_sub_cancel_left]
 have size:u.flatten.length+a.length+b.length<=(arrOf st).size:=by
  rw[← Array.length_toList,ex];simp only[List.length_append];omega
 obtain⟨b0,eb0⟩:∃ x,b[0]?=some x:=⟨_,List.getElem?_eq_getElem nb⟩;obtain⟨al,eal⟩:∃ x,a[a.length - 1]?=some x:=⟨_,List.getElem?_eq_getElem (by omega)⟩
 have gd:=P.gd;have kk:=P.kd;have gb0:good b0:=gd _ (by rw[ex];have:=List.mem_of_getElem? eb0;simp[this])
 have gal:good al:=gd _ (by rw[ex];have:=List.mem_of_getElem? eal;simp[this])
 have b0le:∀ y∈b,Le ky b0 y:=fun y hy=>by
  obtain⟨j,hj⟩:=List.getElem?_of_mem hy;exact sb.get (Nat.zero_le _) eb0 hj
 have leal:∀ x∈a,Le ky x al:=fun x hx=>by
  obtain⟨j,hj⟩:=List.getElem?_of_mem hx;have:=(List.getElem?_eq_some_iff.mp hj).1;exact sa.get (by omega) hj eal
 rw[mergeAtX_eq];refine wpS_bind (wpS_get ?_);rw[ga,gb]
 dsimp only
 refine wpS_bind (wpS_set (α:=Unit) ?_);have done_:∀ r,r.Perm (a++b)->Srd ky r->r=a++b->Q true (setPending st (((pendingOf st).setIfInBounds u.length (u.flatten.length,a.length+b.length,pw)).eraseIdxIfInBounds (u.length+1))):=fun r pm so e=>by
  subst e;exact q _ _ (P.merge (st':=setPending st _) rfl rfl ex pm so hp)
 refine wpS_bind (wpS_elem (by have:=eB 0 nb;rw[Nat.add_zero]at this;rw[this,eb0]) ?_)
 refine wpS_bind (wpS_gal hL kk gb0 gd (fun i j x y h1 h2 h3 e1 e2=>?_) (by omega) na fun k k1 k2 k3=>?_)
 · rw[show i=u.flatten.length+(i - u.flatten.length) by omega,eA _ (by omega)]at e1
   rw[show j=u.flatten.length+(j - u.flatten.length) by omega,eA _ (by omega)]at e2
   exact sa.get (by omega) e1 e2
 have A1:∀ x∈a.take k,Le ky x b0:=fun x hx=>by
  obtain⟨m,m1,m2⟩:=mem_take_get hx;have:=(List.getElem?_eq_some_iff.mp m2).1;exact(k2 (u.flatten.length+m) x (by omega) (by omega) (by rw[eA m (by omega)];exact m2)).2 rfl
 have A2:∀ x∈a.drop k,Le ky b0 x:=fun x hx=>by
  obtain⟨m,m1,m2⟩:=mem_drop_get hx;have:=(List.getElem?_eq_some_iff.mp m2).1;exact Le.of_lt ((k3 (u.flatten.length+m) x (by omega) (by omega) (by rw[eA m (by omega)];exact m2)).2 rfl)
 dsimp only
 refine wpS_ite (fun c=>wpS_pure ?_) (fun c=>?_)
 · have c:=of_beq c
   refine done_ (a++b) (List.Perm.refl _) (Srd.app.mpr ⟨sa,sb,fun x hx y hy=>(A1 x ?_).trans (b0le y hy)⟩) rfl;rw[List.take_of_length_le (by omega)]
   exact hx
 have c:=of_nbeq c;refine wpS_bind (wpS_elem (by rw[show u.flatten.length+k+(a.length - k) - 1=u.flatten.length+(a.length - 1) by omega,eA _ (by omega)];exact eal) ?_)
 refine wpS_bind (wpS_gal hL kk gal gd (fun i j x y h1 h2 h3 e1 e2=>?_) (by omega) (by omega) fun l l1 l2 l3=>?_)
 · rw[show i=u.flatten.length+a.length+(i - (u.flatten.length+a.length)) by omega,eB _ (by omega)]at e1
   rw[show j=u.flatten.length+a.length+(j - (u.flatten.length+a.length)) by omega,eB _ (by omega)]at e2
   exact sb.get (by omega) e1 e2
 have B1:∀ x∈b.take l,Le ky x al:=fun x hx=>by
  obtain⟨m,m1,m2⟩:=mem_take_get hx;have:=(List.getElem?_eq_some_iff.mp m2).1;exact Le.of_lt ((l2 (u.flatten.length+a.length+m) x (by omega) (by omega) (by rw[eB m (by omega)];exact m2)).1 rfl)
 have B2:∀ x∈b.drop l,Le ky al x:=fun x hx=>by
  obtain⟨m,m1,m2⟩:=mem_drop_get hx;have:=(List.getElem?_eq_some_iff.mp m2).1;exact(l3 (u.flatten.length+a.length+m) x (by omega) (by omega) (by rw[eB m (by omega)];exact m2)).1 rfl
 dsimp only
 refine wpS_ite (fun c=>wpS_pure ?_) (fun c2=>?_)
 · have c:=of_beq c
   subst c;exact done_ (a++b) (List.Perm.refl _) (Srd.app.mpr ⟨sa,sb,fun x hx y hy=>(leal x hx).trans (B2 y hy)⟩) rfl
 have c2:=of_nbeq c2;have dr:∀ k,(arrOf st).toList.drop (u.flatten.length+k)=(a++b++(v.flatten++rest)).drop k:=fun k=>by
  rw[ex,List.append_assoc,List.drop_append,List.drop_of_length_le (by omega),Nat.add_sub_cancel_left,List.nil_append]
 have ep1:((arrOf st).extract (u.flatten.length+k) (u.flatten.length+a.length)).toList=a.drop k:=by
  rw[ext_list,dr,List.append_assoc,List.drop_append_of_le_length k1,show u.flatten.length+a.length - (u.flatten.length+k)=(a.drop k).length by rw[List.length_drop];omega,List.take_append_of_le_length (Nat.le_refl _),List.take_length]
 have ep2:((arrOf st).extract (u.flatten.length+a.length) (u.flatten.length+a.length+l)).toList=b.take l:=by
  rw[ext_list,dr,List.append_assoc,List.drop_append_of_le_length (Nat.le_refl _),List.drop_length,List.nil_append,Nat.add_sub_cancel_left,List.take_append_of_le_length l1]
 have sp:Srd ky (a.drop k):=sa.drop k;have sq:Srd ky (b.take l):=sb.take l;have zp:0 < (a.drop k).length:=by rw[List.length_drop];omega
 have zq:0 < (b.take l).length:=by rw[List.length_take];omega
 have lastp:∀ y,(a.drop k)[(a.drop k).length - 1]?=some y->y=al:=fun y e=>by
  rw[List.getElem?_drop,List.length_drop,show k+(a.length - k - 1)=a.length - 1 by omega,eal]at e
  exact(Option.some.inj e).symm
 have firstq:∀ y,(b.take l)[0]?=some y->y=b0:=fun y e=>by
  rw[List.getElem?_take_of_lt (by omega),eb0]at e
  exact(Option.some.inj e).symm
 have gp:∀ x∈a.drop k,good x:=fun x hx=>gd _ (by rw[ex];have:=List.mem_of_mem_drop hx;simp[this])
 have gq:∀ x∈b.take l,good x:=fun x hx=>gd _ (by rw[ex];have:=List.mem_of_mem_take hx;simp[this])
 have fin_:∀(mm:Array Keyed) (st':SortSt),SmS (setPending st (((pendingOf st).setIfInBounds u.length (u.flatten.length,a.length+b.length,pw)).eraseIdxIfInBounds (u.length+1))) st'->Mgd ky (a.drop k) (b.take l) mm.toList ->
  Q true (setArr st' (mm.toList.zipIdx.foldl (fun a (e,j)=>a.setIfInBounds (u.flatten.length+k+j) e) (arrOf st'))):=fun mm st' S M=>by
  have lm:mm.toList.length=a.length - k+l:=by
   rw[M.1.length_eq,List.length_append,List.length_drop,List.length_take];omega
  refine q (a.take k++mm.toList++b.drop l) _ (P.merge (pw:=pw) (st':=setArr st' _) S.k S.f ?_ ?_ ?_ fun pu pv pa pb e l=>?_)
  · show(List.foldl _ (arrOf st') _).toList=_
    rw[S.a];show(List.foldl _ (arrOf st) _).toList=_;rw[wr_at (u.flatten.length+k) mm.toList 0 (arrOf st) (by omega),Nat.add_zero,lm,show u.flatten.length+k+(a.length - k+l)=u.flatten.length+(a.length+l) by omega,dr]
    have e1:(arrOf st).toList.take (u.flatten.length+k)=u.flatten++a.take k:=by
     rw[ex,List.append_assoc,List.take_append,List.take_of_length_le (by omega),Nat.add_sub_cancel_left,List.append_assoc,List.take_append_of_le_length k1]
    have e2:(a++b++(v.flatten++rest)).drop (a.length+l)=b.drop l++(v.flatten++rest):=by
     rw[List.append_assoc,List.drop_append,List.drop_of_length_le (by omega),Nat.add_sub_cancel_left,List.nil_append,List.drop_append_of_le_length l1]
    rw[e1,e2];simp only[List.append_assoc]
  · have h1:(a.take k++mm.toList++b.drop l).Perm (a.take k++(a.drop k++b.take l)++b.drop l):=List.Perm.append_right _ (List.Perm.append_left _ M.1)
    have h2:a.take k++(a.drop k++b.take l)++b.drop l=a++b:=by
     rw[← List.append_assoc,List.take_append_drop,List.append_assoc,List.take_append_drop]
    rw[h2]at h1;exact h1
  · have inM:∀ x∈mm.toList,x∈a.drop k∨x∈b.take l:=fun x hx=>List.mem_append.mp (M.1.mem_iff.mp hx)
    have sa2:=sa;rw[← List.take_append_drop k a]at sa2;have sb2:=sb;rw[← List.take_append_drop l b]at sb2;refine Srd.app.mpr ⟨Srd.app.mpr ⟨sa.take k,M.2,fun x hx y hy=>?_⟩,sb.drop l,fun x hx y hy=>?_⟩
    · rcases inM y hy with z | z
      · exact(Srd.app.mp sa2).2.2 x hx y z
      exact(A1 x hx).trans (b0le y (List.mem_of_mem_take z))
    rcases List.mem_append.mp hx with z | z
    · exact(leal x (List.mem_of_mem_take z)).trans (B2 y hy)
    rcases inM x z with z | z
    · exact(leal x (List.mem_of_mem_drop z)).trans (B2 y hy)
    exact(Srd.app.mp sb2).2.2 x z y hy
  show(pendingOf st').toList=_;rw[S.p];exact hp pu pv pa pb e (by assumption)
 refine wpS_ite (fun _=>?_) (fun _=>?_)
 · refine wpS_bind (wpS_mergeLo hL (by exact kk) (by rw[ep1];exact gp) (by rw[ep2];exact gq) (by rw[ep1];exact sp) (by rw[ep2];exact sq) (by rw[← Array.length_toList,ep1];exact zp) (by rw[← Array.length_toList,ep2];exact zq) (fun x y hx hy=>?_) (fun x hx y hy=>?_) fun mm st' S M=>?_)
   · have hx:=at_list hx
     have hy:=at_list hy;rw[ep1]at hx;rw[ep2]at hy;rw[firstq y hy];exact A2 x (List.mem_of_getElem? hx)
   · have hy:=at_list hy
     rw[← Array.length_toList,ep1]at hy;rw[ep2]at hx;rw[lastp y hy];exact B1 x hx
   rw[ep1,ep2]at M;refine wpS_bind (wpS_modify (wpS_bind (wpS_get ?_)));have:(failedOf st').isNone=true:=by rw[S.f];show(failedOf st).isNone=true;rw[P.fl];rfl
   show wpS _ _ _ _ (pure (failedOf st').isNone) _ _;rw[this];exact wpS_pure (fin_ mm st' S M)
 refine wpS_bind (wpS_mergeHi hL (by exact kk) (by rw[ep1];exact gp) (by rw[ep2];exact gq) (by rw[ep1];exact sp) (by rw[ep2];exact sq) (by rw[← Array.length_toList,ep1];exact zp) (by rw[← Array.length_toList,ep2];exact zq) (fun y hy x hx=>?_) (fun x y hx hy=>?_) fun mm st' S M=>?_)
 · have hy:=at_list hy
   rw[ep1]at hx;rw[ep2]at hy;rw[firstq y hy];exact A2 x hx
 · have hx:=at_list hx
   have hy:=at_list hy;rw[← Array.length_toList,ep1]at hx;rw[ep2]at hy;rw[lastp x hx];exact B1 y (List.mem_of_getElem? hy)
 rw[ep1,ep2]at M;refine wpS_bind (wpS_modify (wpS_bind (wpS_get ?_)));have:(failedOf st').isNone=true:=by rw[S.f];show(failedOf st).isNone=true;rw[P.fl];rfl
 show wpS _ _ _ _ (pure (failedOf st').isNone) _ _;rw[this];exact wpS_pure (fin_ mm st' S M)
end
noncomputable def kyK(κ:PyProof.Rows.KeyKind)(x:Keyed):κ.α:=(κ.keyOf x.1).getD κ.dflt
theorem KK_at{κ:PyProof.Rows.KeyKind}{xs:Array Keyed}{i:Nat}{x:Keyed}(h:xs[i]?=some x):KK κ xs i=kyK κ x:=by
 unfold KK kyK;rw[h]
noncomputable abbrev AS:=Option (Option Nat)×Nat
noncomputable abbrev DS:=Option (Option Nat)×Nat×Nat
noncomputable def ascF(lo:Nat)(c:AS):StateT SortSt Sem (ForInStep AS):=do
 let x ← ltAt' (lo+c.2) (lo+c.2 - 1)
 match x with
 | some sm=>if sm=true then pure (.done (none,c.2))else pure (.yield (none,c.2+1))
 | _=>pure (.done (some none,c.2))
noncomputable def tailF(lo n m:Nat):StateT SortSt Sem (Option Nat):=do
 reverseSlice' lo (lo+m)
 let c ← forIn [m:n] ((none,m):AS) fun _=>ascF lo
 match c.1 with
 | some r=>pure r
 | none=>pure (some c.2)
noncomputable def descF(lo:Nat)(c:DS):StateT SortSt Sem (ForInStep DS):=do
 let x ← ltAt' (lo+c.2.1) (lo+c.2.1 - 1)
 match x with
 | some sm=>
   if sm=true then
    if c.2.2 > 0 then do
     reverseSlice' (lo+c.2.1 - (c.2.2+1)) (lo+c.2.1)
     pure (.yield (none,c.2.1+1,0))
    else pure (.yield (none,c.2.1+1,0))
   else do
    let x ← ltAt' (lo+c.2.1 - 1) (lo+c.2.1)
    match x with
    | some la=>if la=true then pure (.done (none,c.2.1,c.2.2))else pure (.yield (none,c.2.1+1,c.2.2+1))
    | _=>pure (.done (some none,c.2.1,c.2.2))
 | _=>pure (.done (some none,c.2.1,c.2.2))
noncomputable def descP(lo n m:Nat):StateT SortSt Sem (Option Nat):=do
 liftM (rule "list.sort.descending-run")
 let c ← forIn [m+1:n] ((none,m+1,0):DS) fun _=>descF lo
 match c.1 with
 | some r=>pure r
 | none=>
   if c.2.2 > 0 then do
    reverseSlice' (lo+c.2.1 - (c.2.2+1)) (lo+c.2.1)
    tailF lo n c.2.1
   else tailF lo n c.2.1
theorem countX_eq(lo n:Nat):countRun' lo n=(do
 let c ← forIn [1:n] ((none,1):AS) fun _=>ascF lo
 match c.1 with
 | some r=>pure r
 | none=>
   if(c.2 == n)=true then pure (some c.2)
   else if c.2 > 1 then do
    let x ← ltAt' lo (lo+c.2 - 1)
    match x with
    | some ro=>if ro=true then pure (some c.2)else do
      reverseSlice' lo (lo+c.2)
      descP lo n c.2
    | _=>pure none
   else descP lo n c.2):=by kernel_rfl
section
variable{prog:Program}{w:World}{A:Around}{E:Value->Shared->Prop}{s:Shared}{κ:PyProof.Rows.KeyKind}{good:Keyed->Prop}{kd:SortKind}
structure SB(lo:Nat)(st0 st:SortSt):Prop where
 pm:(arrOf st).Perm (arrOf st0)
 kd:kindOf st=kindOf st0
 pd:pendingOf st=pendingOf st0
 fl:failedOf st=failedOf st0
 lw:∀ i,i < lo->(arrOf st)[i]?=(arrOf st0)[i]?
theorem SB.rfl'(lo:Nat)(st:SortSt):SB lo st st:=⟨Array.Perm.refl _,rfl,rfl,rfl,fun _ _=>rfl⟩
theorem SB.size{lo:Nat}{st0 st:SortSt}(h:SB lo st0 st):(arrOf st).size=(arrOf st0).size:=h.pm.size_eq
theorem SB.mir{lo i j:Nat}{st0 st:SortSt}(h:SB lo st0 st)(h1:lo<=i)(h2:j<=(arrOf st0).size):SB lo st0 (setArr st (mirror (arrOf st) i j ((j - i) / 2))):=
 ⟨(mirror_perm _ _ _ _).trans h.pm,h.kd,h.pd,h.fl,fun k hk=>by
   show(mirror (arrOf st) i j ((j - i) / 2))[k]?=_;rw[getElem?_mirror_all (by rw[h.size];exact h2),if_neg (by omega)]
   exact h.lw k hk⟩
theorem SB.bub{lo i j:Nat}{st0 st:SortSt}(h:SB lo st0 st)(h1:lo<=j)(hj:j<=i)(h2:i < (arrOf st0).size):SB lo st0 (setArr st (bubble (arrOf st) i (i - j))):=
 ⟨(bubble_perm _ _ _).trans h.pm,h.kd,h.pd,h.fl,fun k hk=>by
   show(bubble (arrOf st) i (i - j))[k]?=_;rw[getElem?_bubble (by rw[h.size];exact h2) _ (by omega),if_neg (by omega),if_neg (by omega)]
   exact h.lw k hk⟩
noncomputable def SoK(κ:PyProof.Rows.KeyKind)(xs:Array Keyed)(lo n:Nat):Prop:=∀ i j,lo<=i->i<=j->j < lo+n -> κ.kle (KK κ xs i) (KK κ xs j)
noncomputable def NiK(κ:PyProof.Rows.KeyKind)(xs:Array Keyed)(lo n:Nat):Prop:=∀ i j,lo<=i->i<=j->j < lo+n -> κ.kle (KK κ xs j) (KK κ xs i)
theorem wpS_ltX(hL:LtOk prog w A E s κ.toKeyOrd (kyK κ) good kd){lo:Nat}{st0 st:SortSt}{i j:Nat}{Q:Option Bool->SortSt->Prop}(S:SB lo st0 st)(hk:kindOf st0=kd)(gd:∀ x∈(arrOf st0).toList,good x)(hi:i < (arrOf st0).size)(hj:j < (arrOf st0).size)
 (q:Q (some (κ.blt (KK κ (arrOf st) i) (KK κ (arrOf st) j))) st):wpS (model prog w) A E s (ltAt' i j) Q st:=by
 obtain⟨x,ex,mx⟩:=some_at (p:=arrOf st) (i:=i) (by rw[S.size];exact hi)
 obtain⟨y,ey,my⟩:=some_at (p:=arrOf st) (i:=j) (by rw[S.size];exact hj)
 have mem:∀ x,x∈(arrOf st).toList->good x:=fun x hx=>gd x ((Array.perm_iff_toList_perm.mp S.pm).mem_iff.mp hx);rw[KK_at ex,KK_at ey]at q;rw[ltAt'_eq];refine wpS_bind (wpS_get ?_);exact wpS_bind (wpS_elem ex (wpS_bind (wpS_elem ey (hL x y st _ (mem x mx) (mem y my) (S.kd.trans hk) q))))
theorem SoK.more{xs:Array Keyed}{lo n:Nat}(h:SoK κ xs lo n)(hn:1<=n)(z:κ.blt (KK κ xs (lo+n)) (KK κ xs (lo+n - 1))=false):SoK κ xs lo (n+1):=fun i j h1 h2 h3=>by
 by_cases e:j=lo+n
 · subst e
   by_cases e2:i=lo+n
   · subst e2;exact KeyOrd.kle_refl _
   exact KeyOrd.kle_trans (h i (lo+n - 1) h1 (by omega) (by omega)) z
 exact h i j h1 h2 (by omega)
variable{lo n:Nat}{st0 st:SortSt}
structure CnF(prog:Program)(w:World)(A:Around)(E:Value->Shared->Prop)(s:Shared)(κ:PyProof.Rows.KeyKind)(good:Keyed->Prop)(kd:SortKind)(lo n:Nat)(st0:SortSt):Prop where
 hL:LtOk prog w A E s κ.toKeyOrd (kyK κ) good kd
 hk:kindOf st0=kd
 gd:∀ x∈(arrOf st0).toList,good x
 hn:lo+n<=(arrOf st0).size
theorem wpS_asc(F:CnF prog w A E s κ good kd lo n st0)(S:SB lo st0 st){a:Nat}{Q:AS->SortSt->Prop}(ha:1<=a)(han:a<=n)(hs:SoK κ (arrOf st) lo a)
 (q:∀ m,a<=m->m<=n->SoK κ (arrOf st) lo m->(m=n ∨ κ.blt (KK κ (arrOf st) (lo+m)) (KK κ (arrOf st) (lo+m - 1))=true)->Q (none,m) st) :
 wpS (model prog w) A E s (forIn [a:n] ((none,a):AS) fun _=>ascF lo) Q st:=by
 have hn:=F.hn;refine wpS_forRange (I:=fun x c st'=>st'=st/\c=(none,x)/\SoK κ (arrOf st) lo x) ?_ ?_ ⟨rfl,rfl,hs⟩
 · rintro x c st' hax hxn ⟨rfl,rfl,hs'⟩
   refine wpS_bind (wpS_ltX F.hL S F.hk F.gd (i:=lo+x) (by omega) (by show lo+x - 1 < _;omega) ?_)
   cases e:κ.blt (KK κ (arrOf st') (lo+x)) (KK κ (arrOf st') (lo+x - 1))with
   | true=>exact wpS_pure (q x hax (Nat.le_of_lt hxn) hs' (.inr e))
   | false=>exact wpS_pure ⟨rfl,rfl,hs'.more (Nat.le_trans ha hax) e⟩
 rintro c st' ⟨rfl,rfl,hs'⟩;rw[Nat.max_eq_right han]at hs' ⊢;exact q n han (Nat.le_refl _) hs' (.inl rfl)
theorem eq_mir{xs:Array Keyed}{i j:Nat}(hj:j<=xs.size)(h:∀ k,i<=k->k < j->KK κ xs k=KK κ xs (j - 1))(k:Nat):KK κ (mirror xs i j ((j - i) / 2)) k=KK κ xs k:=KK_mirror_equal hj h k
theorem wpS_tail(F:CnF prog w A E s κ good kd lo n st0)(S:SB lo st0 st){m:Nat}{Q:Option Nat->SortSt->Prop}(m1:1<=m)(m2:m<=n)(ni:NiK κ (arrOf st) lo m)(q:∀ m st',SB lo st0 st'->1<=m->m<=n->SoK κ (arrOf st') lo m->Q (some m) st'):wpS (model prog w) A E s (tailF lo n m) Q st:=by
 have hn:=F.hn;have le:lo+m<=(arrOf st).size:=by rw[S.size];omega
 have S2:=S.mir (i:=lo) (j:=lo+m) (Nat.le_refl _) (by omega)
 refine wpS_bind (wpS_reverse (wpS_bind (wpS_asc F S2 m1 m2 (fun i j a1 a2 a3=>?_) fun m' a1 a2 a3 _=>wpS_pure (q m' _ S2 (Nat.le_trans m1 a1) a2 a3))));show κ.kle (KK κ (mirror _ _ _ _) _) (KK κ (mirror _ _ _ _) _);rw[KK_mirror le,KK_mirror le,if_pos (by omega),if_pos (by omega)]
 exact ni _ _ (by omega) (by omega) (by omega)
theorem wpS_descP(F:CnF prog w A E s κ good kd lo n st0)(S:SB lo st0 st){m:Nat}{Q:Option Nat->SortSt->Prop}(m2:m+1<=n)(hs:NiK κ (arrOf st) lo (m+1))(q:∀ m st',SB lo st0 st'->1<=m->m<=n->SoK κ (arrOf st') lo m->Q (some m) st'):wpS (model prog w) A E s (descP lo n m) Q st:=by
 have hn:=F.hn;have fin_:∀(y nq:Nat) (st':SortSt),SB lo st0 st'->m+1<=y->y<=n->NiK κ (arrOf st') lo y->(∀ i,lo+y - (nq+1)<=i->i < lo+y->KK κ (arrOf st') i=KK κ (arrOf st') (lo+y - 1))->nq+1<=y ->
  wpS (model prog w) A E s (if nq > 0 then do
   reverseSlice' (lo+y - (nq+1)) (lo+y)
   tailF lo n y
  else tailF lo n y) Q st':=fun y nq st' S y1 y2 ni eq h3=>by
  have le:lo+y<=(arrOf st').size:=by rw[S.size];omega
  refine wpS_ite (fun g=>wpS_bind (wpS_reverse (wpS_tail F (S.mir (by omega) (by omega)) (Nat.le_trans (Nat.succ_le_succ (Nat.zero_le _)) y1) y2 (fun i j a1 a2 a3=>?_) q))) fun _=>wpS_tail F S (Nat.le_trans (Nat.succ_le_succ (Nat.zero_le _)) y1) y2 ni q
  show κ.kle (KK κ (mirror _ _ _ _) _) (KK κ (mirror _ _ _ _) _);rw[eq_mir le eq,eq_mir le eq];exact ni i j a1 a2 a3
 refine wpS_bind (wpS_lift (wpAny_rule ⟨rfl,?_⟩));refine wpS_bind (wpS_mono (wpS_forRange (I:=fun x c st'=>∃ nq,c=(none,x,nq)/\SB lo st0 st'/\NiK κ (arrOf st') lo x/\nq+1<=x/\(∀ i,lo+x - (nq+1)<=i->i < lo+x->KK κ (arrOf st') i=KK κ (arrOf st') (lo+x - 1)))
  (Q:=fun c st'=>∃ x nq,c=(none,x,nq)/\m+1<=x/\x<=n/\SB lo st0 st'/\NiK κ (arrOf st') lo x/\nq+1<=x/\(∀ i,lo+x - (nq+1)<=i->i < lo+x->KK κ (arrOf st') i=KK κ (arrOf st') (lo+x - 1))) ?_ ?_ ⟨0,rfl,S,hs,by omega,fun i h1 h2=>by congr 1;omega⟩) ?_)
 · rintro x c st' hax hxn ⟨nq,rfl,S',hs',hq,he⟩
   have le:lo+x<=(arrOf st').size:=by rw[S'.size];omega
   have up:∀ xs:Array Keyed,(∀ k,KK κ xs k=KK κ (arrOf st') k) -> κ.kle (KK κ (arrOf st') (lo+x)) (KK κ (arrOf st') (lo+x - 1))->NiK κ xs lo (x+1):=fun xs hk hle i j h1 h2 h3=>by
    rw[hk,hk];by_cases e:j=lo+x
    · subst e
      by_cases e2:i=lo+x
      · subst e2;exact KeyOrd.kle_refl _
      exact KeyOrd.kle_trans hle (hs' i (lo+x - 1) h1 (by omega) (by omega))
    exact hs' i j h1 h2 (by omega)
   have one:∀(xs:Array Keyed) i,lo+(x+1) - (0+1)<=i->i < lo+(x+1)->KK κ xs i=KK κ xs (lo+(x+1) - 1):=fun xs i h1 h2=>by congr 1;omega
   have i1:lo+x < (arrOf st0).size:=by omega
   have i2:lo+x - 1 < (arrOf st0).size:=by omega
   refine wpS_bind (wpS_ltX F.hL S' F.hk F.gd (i:=lo+x) i1 i2 ?_);cases e:κ.blt (KK κ (arrOf st') (lo+x)) (KK κ (arrOf st') (lo+x - 1))with
   | true=>
     refine wpS_ite (fun _=>wpS_ite (fun g=>?_) (fun g=>?_)) (fun z=>absurd rfl z)
     · exact wpS_bind (wpS_reverse (wpS_pure ⟨0,rfl,S'.mir (by show lo<=lo+x - (nq+1);omega) (by show lo+x<=_;omega),up _ (eq_mir le he) (KeyOrd.kle_of_klt e),by omega,one _⟩))
     exact wpS_pure ⟨0,rfl,S',up _ (fun _=>rfl) (KeyOrd.kle_of_klt e),by omega,one _⟩
   | false=>
     refine wpS_bind (wpS_ltX F.hL S' F.hk F.gd (i:=lo+x - 1) i2 i1 ?_);cases e2:κ.blt (KK κ (arrOf st') (lo+x - 1)) (KK κ (arrOf st') (lo+x))with
     | true=>exact wpS_pure ⟨x,nq,rfl,hax,Nat.le_of_lt hxn,S',hs',hq,he⟩
     | false=>
       have eqx:KK κ (arrOf st') (lo+x)=KK κ (arrOf st') (lo+x - 1):=κ.total _ _ e e2;refine wpS_pure ⟨nq+1,rfl,S',up _ (fun _=>rfl) e2,by omega,fun i h1 h2=>?_⟩
       rw[show lo+(x+1) - 1=lo+x by omega]
       by_cases ei:i=lo+x
       · subst ei;rfl
       rw[eqx];exact he i (by omega) (by omega)
 · rintro c st' ⟨nq,rfl,S',hs',hq,he⟩
   rw[Nat.max_eq_right m2]at hs' hq he ⊢;exact⟨n,nq,rfl,m2,Nat.le_refl _,S',hs',hq,he⟩
 rintro c st' ⟨x,nq,rfl,x1,x2,S',hs',hq,he⟩;exact fin_ x nq st' S' x1 x2 hs' he hq
theorem wpS_count(F:CnF prog w A E s κ good kd lo n st0){Q:Option Nat->SortSt->Prop}(h1:1<=n)(q:∀ m st',SB lo st0 st'->1<=m->m<=n->SoK κ (arrOf st') lo m->Q (some m) st'):wpS (model prog w) A E s (countRun' lo n) Q st0:=by
 have hn:=F.hn;rw[countX_eq];have S0:=SB.rfl' lo st0;refine wpS_bind (wpS_asc F S0 (Nat.le_refl 1) h1 (fun i j a1 a2 a3=>by
  obtain rfl:i=j:=by omega
  exact KeyOrd.kle_refl _) fun m m1 m2 hs hor=>?_)
 refine wpS_ite (fun c=>wpS_pure (q m st0 S0 m1 m2 hs)) (fun c=>?_);have c:¬ m=n:=of_nbeq c;have lt:=hor.resolve_left c;have le0:lo+m<=(arrOf st0).size:=by omega
 have m3:m+1<=n:=by omega
 refine wpS_ite (fun g=>?_) (fun g=>?_)
 · refine wpS_bind (wpS_ltX F.hL S0 F.hk F.gd (i:=lo) (by omega) (by show lo+m - 1 < _;omega) ?_)
   cases er:κ.blt (KK κ (arrOf st0) lo) (KK κ (arrOf st0) (lo+m - 1))with
   | true=>exact wpS_pure (q m st0 S0 m1 m2 hs)
   | false=>
     have all:∀ k,lo<=k->k < lo+m->KK κ (arrOf st0) k=KK κ (arrOf st0) (lo+m - 1):=fun k k1 k2=>
      KeyOrd.kle_antisymm (hs k (lo+m - 1) k1 (by omega) (by omega)) (KeyOrd.kle_trans (show κ.kle (KK κ (arrOf st0) (lo+m - 1)) (KK κ (arrOf st0) lo)from er) (hs lo k (Nat.le_refl _) k1 k2))
     refine wpS_bind (wpS_reverse (wpS_descP F (S0.mir (i:=lo) (j:=lo+m) (Nat.le_refl _) le0) m3 (fun i j a1 a2 a3=>?_) q));show κ.kle (KK κ (mirror _ _ _ _) _) (KK κ (mirror _ _ _ _) _);rw[eq_mir le0 all,eq_mir le0 all];by_cases e:j=lo+m
     · subst e
       by_cases e2:i=lo+m
       · subst e2;exact KeyOrd.kle_refl _
       rw[all i a1 (by omega)];exact KeyOrd.kle_of_klt lt
     rw[all i a1 (by omega),all j (by omega) (by omega)];exact KeyOrd.kle_refl _
 have g:¬ m > 1:=g;obtain rfl:m=1:=by omega
 refine wpS_descP F S0 m3 (fun i j a1 a2 a3=>?_) q;by_cases e:i=j
 · subst e;exact KeyOrd.kle_refl _
 obtain rfl:i=lo:=by omega
 obtain rfl:j=i+1:=by omega
 exact KeyOrd.kle_of_klt lt
theorem wpS_binS(F:CnF prog w A E s κ good kd lo n st0){ok:Nat}{Q:Bool->SortSt->Prop}(S:SB lo st0 st)(h1:ok<=n)(hs:SoK κ (arrOf st) lo ok)
 (q:∀ st',SB lo st0 st'->SoK κ (arrOf st') lo n->Q true st'):wpS (model prog w) A E s (binarySort' lo n ok) Q st:=by
 have hn:=F.hn;rw[binarySort'_eq]
 dsimp only
 refine wpS_bind (wpS_mono (wpS_forRange (I:=fun k c st'=>c=(none,())/\SB lo st0 st'/\SoK κ (arrOf st') lo (min k n)) (Q:=fun c st'=>c=(none,())/\SB lo st0 st'/\SoK κ (arrOf st') lo n) ?_ ?_ ?_) ?_)
 · rintro k c st' a1 a2 ⟨rfl,S',so⟩
   rw[show min k n=k by omega]at so
   refine wpS_bind (wpS_mono (wpS_forRange (I:=fun x c st2=>st2=st' /\ ∃ l r,c=(none,l,r)/\l<=r/\r<=k/\r - l<=k - x/\(∀ i,lo<=i->i < lo+l -> κ.kle (KK κ (arrOf st') i) (KK κ (arrOf st') (lo+k)))/\(∀ i,lo+r<=i->i < lo+k -> κ.klt (KK κ (arrOf st') (lo+k)) (KK κ (arrOf st') i)))
    (Q:=fun c st2=>st2=st' /\ ∃ l r,c=(none,l,r)/\l<=k/\(∀ i,lo<=i->i < lo+l -> κ.kle (KK κ (arrOf st') i) (KK κ (arrOf st') (lo+k)))/\(∀ i,lo+l<=i->i < lo+k -> κ.klt (KK κ (arrOf st') (lo+k)) (KK κ (arrOf st') i))) ?_ ?_ ?_) ?_)
   · rintro x c st2 _ hx ⟨rfl,l,r,rfl,b1,b2,b3,b4,b5⟩
     dsimp only
     refine wpS_ite (fun g=>?_) (fun g=>?_)
     · obtain rfl:l=r:=by omega
       exact wpS_pure ⟨rfl,l,l,rfl,b2,b4,b5⟩
     refine wpS_bind (wpS_ltX F.hL S' F.hk F.gd (by omega) (by omega) ?_)
     dsimp only
     cases e:κ.blt (KK κ (arrOf st2) (lo+k)) (KK κ (arrOf st2) (lo+(l+r) / 2))with
     | true=>exact wpS_pure ⟨rfl,l,(l+r) / 2,rfl,by omega,by omega,by omega,b4,fun i c1 c2=>KeyOrd.klt_of_klt_of_kle e (so _ _ (by omega) c1 (by omega))⟩
     | false=>exact wpS_pure ⟨rfl,(l+r) / 2+1,r,rfl,by omega,by omega,by omega,fun i c1 c2=>KeyOrd.kle_trans (so i (lo+(l+r) / 2) c1 (by omega) (by omega)) e,b5⟩
   · rintro c st2 ⟨rfl,l,r,rfl,b1,b2,b3,b4,b5⟩
     obtain rfl:l=r:=by omega
     exact⟨rfl,l,l,rfl,b2,b4,b5⟩
   · exact⟨rfl,0,k,rfl,by omega,by omega,by omega,fun i c1 c2=>by omega,fun i c1 c2=>by omega⟩
   rintro c st2 ⟨rfl,l,r,rfl,b2,b4,b5⟩
   dsimp only
   rw[moveDown'_eq];refine wpS_bind (wpS_modify (wpS_pure ⟨rfl,S'.bub (by omega) (by omega) (by omega),?_⟩))
   rw[show min (k+1) n=k+1 by omega]
   have hz:lo+k < (arrOf st2).size:=by rw[S'.size];omega
   intro i j c1 c2 c3;show κ.kle (KK κ (bubble (arrOf st2) (lo+k) (lo+k - (lo+l))) i) (KK κ (bubble (arrOf st2) (lo+k) (lo+k - (lo+l))) j);rw[KK_bubble hz (by omega),KK_bubble hz (by omega),show lo+k - (lo+k - (lo+l))=lo+l by omega]
   repeat' split
   all_goals first
    | (exfalso;omega)
    | exact KeyOrd.kle_refl _
    | exact b4 _ (by omega) (by omega)
    | exact KeyOrd.kle_of_klt (b5 _ (by omega) (by omega))
    | exact so _ _ (by omega) (by omega) (by omega)
 · rintro c st' ⟨e,S',so⟩
   rw[show min (max (max ok 1) n) n=n by omega]at so
   exact⟨e,S',so⟩
 · refine⟨rfl,S,fun i j c1 c2 c3=>?_⟩
   by_cases e:ok=0
   · obtain rfl:i=j:=by omega
     exact KeyOrd.kle_refl _
   exact hs i j c1 c2 (by omega)
 rintro c st' ⟨rfl,S',so⟩;exact wpS_pure (q st' S' so)
end
section
variable{prog:Program}{w:World}{A:Around}{E:Value->Shared->Prop}{s:Shared}{κ:PyProof.Rows.KeyKind}{good:Keyed->Prop}{kd:SortKind}{a₀:Array Keyed}{st st':SortSt}{rs:List (List Keyed)}{rest:List Keyed}
theorem flat_le:∀{rs:List (List Keyed)},(∀ r∈rs,r≠[])->rs.length<=rs.flatten.length
 | [],_=>Nat.le_refl _
 | r::rs,h=>by
   have h1:=List.length_pos_iff.mpr (h r (List.mem_cons_self ..));have h2:=flat_le fun z hz=>h z (List.mem_cons_of_mem _ hz);rw[List.flatten_cons,List.length_append,List.length_cons];omega
theorem PD.psize(P:PD (kyK κ) good kd a₀ st rs rest):(pendingOf st).size=rs.length:=by
 have:=congrArg List.length P.pd;rw[List.length_map,rlay_len,Array.length_toList]at this;exact this
theorem PD.asize(P:PD (kyK κ) good kd a₀ st rs rest):rs.flatten.length+rest.length=a₀.size:=by
 rw[← P.pm.size_eq,← Array.length_toList,P.eq,List.length_append]
theorem two_of{rs:List (List Keyed)}{i:Nat}(h:i+1 < rs.length):∃ u a b v,rs=u++a::b::v/\u.length=i:=by
 refine⟨rs.take i,rs[i],rs[i+1],rs.drop (i+2),?_,by rw[List.length_take];omega⟩
 conv=>lhs;rw[← List.take_append_drop i rs]
 rw[List.drop_eq_getElem_cons (by omega),List.drop_eq_getElem_cons (by omega)]
theorem wpS_merge(hL:LtOk prog w A E s κ.toKeyOrd (kyK κ) good kd){i:Nat}{Q:Bool->SortSt->Prop}(P:PD (kyK κ) good kd a₀ st rs rest)(h:i+1 < rs.length)
 (q:∀ rs' st',PD (kyK κ) good kd a₀ st' rs' rest->rs'.length+1=rs.length->Q true st'):wpS (model prog w) A E s (mergeAt' i) Q st:=by
 obtain⟨u,a,b,v,rfl,rfl⟩:=two_of h;exact wpS_mergeAt hL P fun r st' P'=>q _ st' P' (by simp only[List.length_append,List.length_cons];omega)
theorem PD.run(P:PD (kyK κ) good kd a₀ st rs rest){n:Nat}(S:SB rs.flatten.length st st')(so:SoK κ (arrOf st') rs.flatten.length n)(n1:1<=n)(n2:rs.flatten.length+n<=a₀.size) :
 ∃ r rest',PD (kyK κ) good kd a₀ st' rs (r++rest')/\r.length=n/\Srd (kyK κ) r/\r≠[]:=by
 have size:(arrOf st').toList.length=a₀.size:=by rw[Array.length_toList,S.size,P.pm.size_eq]
 have e1:(arrOf st').toList.take rs.flatten.length=rs.flatten:=by
  refine List.ext_getElem? fun i=>?_;by_cases h:i < rs.flatten.length
  · rw[List.getElem?_take_of_lt h,Array.getElem?_toList,S.lw i h,← Array.getElem?_toList,P.eq,List.getElem?_append_left h]
  rw[List.getElem?_take,if_neg h,List.getElem?_eq_none (by omega)]
 have lr:(((arrOf st').toList.drop rs.flatten.length).take n).length=n:=by
  rw[List.length_take,List.length_drop,size];omega
 refine⟨((arrOf st').toList.drop rs.flatten.length).take n,((arrOf st').toList.drop rs.flatten.length).drop n,⟨S.pm.trans P.pm,S.kd.trans P.kd,S.fl.trans P.fl,?_,by rw[S.pd];exact P.pd,P.so,fun x hx=>P.gd x ((Array.perm_iff_toList_perm.mp S.pm).mem_iff.mp hx)⟩,lr,?_,?_⟩
 · rw[List.take_append_drop]
   conv=>lhs;rw[← List.take_append_drop rs.flatten.length (arrOf st').toList]
   rw[e1]
 · refine List.pairwise_iff_getElem.mpr fun i j hi hj hij=>?_
   rw[lr]at hi hj;have at_:∀ k (hk:k < (((arrOf st').toList.drop rs.flatten.length).take n).length),KK κ (arrOf st') (rs.flatten.length+k)=kyK κ (((arrOf st').toList.drop rs.flatten.length).take n)[k]:=fun k hk=>by
    refine KK_at ?_;rw[← Array.getElem?_toList,← List.getElem?_drop,← List.getElem?_take_of_lt (show k < n by omega)]
    exact List.getElem?_eq_getElem hk
   show κ.kle _ _;rw[← at_ i (by omega),← at_ j (by omega)]
   exact so _ _ (by omega) (by omega) (by omega)
 intro e;rw[e]at lr;simp at lr;omega
theorem PD.push{r rest':List Keyed}{pw lo n:Nat}(P:PD (kyK κ) good kd a₀ st rs (r++rest'))(so:Srd (kyK κ) r)(ne:r≠[])(hlo:rs.flatten.length=lo)(hn:r.length=n):PD (kyK κ) good kd a₀ (setPending st ((pendingOf st).push (lo,n,pw))) (rs++[r]) rest':=by
 subst hn;refine⟨P.pm,P.kd,P.fl,(by show(arrOf st).toList=_;rw[P.eq];simp),?_,fun z hz=>?_,P.gd⟩
 · show((pendingOf st).push _).toList.map _=_
   rw[Array.toList_push,List.map_append,P.pd,rlay_app,Nat.zero_add,hlo]
   rfl
 rcases List.mem_append.mp hz with y | y
 · exact P.so z y
 rw[List.mem_singleton.mp y];exact⟨so,ne⟩
theorem PD.pow(P:PD (kyK κ) good kd a₀ st rs rest)(i pw:Nat):PD (kyK κ) good kd a₀ (setPending st ((pendingOf st).modify i fun x=>(x.fst,x.2.fst,pw))) rs rest:=by
 refine⟨P.pm,P.kd,P.fl,P.eq,?_,P.so,P.gd⟩;show((pendingOf st).modify i _).toList.map _=_;rw[← P.pd];refine List.ext_getElem? fun k=>?_;rw[List.getElem?_map,List.getElem?_map,Array.getElem?_toList,Array.getElem?_toList,Array.getElem?_modify];split
 · cases (pendingOf st)[k]? <;> rfl
 rfl
noncomputable def mgF(size pw:Nat):StateT SortSt Sem (ForInStep (Option Unit×Unit)):=do
 let z ← get
 match if(pendingOf z).size > 1 then(pendingOf z)[(pendingOf z).size - 2]? else none with
 | some (_,_,od)=>
   if od<=pw then pure (.done (none,()))
   else do
    let b ← mergeAt' ((pendingOf z).size - 2)
    if(!b)=true then pure (.done (some (),()))else pure (.yield (none,()))
 | _=>pure (.done (none,()))
noncomputable def pushF(size lo n:Nat):StateT SortSt Sem (ForInStep (Option Unit×Nat)):=do
 let z ← get
 match(pendingOf z).back? with
 | some (s1,n1,_)=>do
   let c ← forIn [:size] ((none,()):Option Unit×Unit) fun _ _=>mgF size (power' size (2*s1+n1) (2*s1+n1+n1+n) size)
   match c.1 with
   | some r=>pure (.done (some r,lo))
   | none=>do
     modify fun s=>setPending s ((pendingOf s).modify ((pendingOf s).size - 1) fun x=>(x.fst,x.2.fst,power' size (2*s1+n1) (2*s1+n1+n1+n) size))
     modify fun s=>setPending s ((pendingOf s).push (lo,n,0))
     pure (.yield (none,lo+n))
 | _=>do
   modify fun s=>setPending s ((pendingOf s).push (lo,n,0))
   pure (.yield (none,lo+n))
noncomputable def runF(size:Nat)(c:Option Unit×Nat):StateT SortSt Sem (ForInStep (Option Unit×Nat)):=
 if c.2 ≥ size then pure (.done (none,c.2))
 else do
  let x ← countRun' c.2 (size - c.2)
  match x with
  | some found=>
    if found < minRun' size size 0 then do
     liftM (rule "list.sort.binary-insertion")
     let b ← binarySort' c.2 (min (size - c.2) (minRun' size size 0)) found
     if(!b)=true then pure (.done (some (),c.2))else pushF size c.2 (min (size - c.2) (minRun' size size 0))
    else pushF size c.2 found
  | _=>pure (.done (some (),c.2))
noncomputable def endF:StateT SortSt Sem (ForInStep (Option Unit×Unit)):=do
 let z ← get
 if(pendingOf z).size<=1 then pure (.done (none,()))
 else do
  let b ← mergeAt' (if Option.any (fun x=>decide (x < (pendingOf z)[(pendingOf z).size - 2+1]?.elim 0 fun x=>x.snd.fst)) (if(pendingOf z).size - 2 > 0 then Option.map (fun x=>x.snd.fst) (pendingOf z)[(pendingOf z).size - 2 - 1]? else none)=true then(pendingOf z).size - 2 - 1 else(pendingOf z).size - 2)
  if(!b)=true then pure (.done (some (),()))else pure (.yield (none,()))
theorem runsX_eq:sortRuns'=(do
 let z ← get
 let c ← forIn [:(arrOf z).size] ((none,0):Option Unit×Nat) fun _=>runF (arrOf z).size
 match c.1 with
 | some r=>pure r
 | none=>do
   let c ← forIn [:(arrOf z).size] ((none,()):Option Unit×Unit) fun _ _=>endF
   match c.1 with
   | some r=>pure r
   | none=>pure ()):=by kernel_rfl
theorem Srd.one:∀{rs:List (List Keyed)},(∀ r∈rs,Srd (kyK κ) r)->rs.length<=1->Srd (kyK κ) rs.flatten
 | [],_,_=>List.Pairwise.nil
 | [r],h,_=>by rw[List.flatten_singleton];exact h r (List.mem_singleton.mpr rfl)
 | _::_::_,_,h=>by simp at h
noncomputable def RnI(κ:PyProof.Rows.KeyKind)(good:Keyed->Prop)(kd:SortKind)(a₀:Array Keyed)(x:Nat)(c:Option Unit×Nat)(st':SortSt):Prop:=∃ lo rs rest,c=(none,lo)/\PD (kyK κ) good kd a₀ st' rs rest/\rs.flatten.length=lo/\(x<=lo∨a₀.size<=lo)
theorem wpS_push(hL:LtOk prog w A E s κ.toKeyOrd (kyK κ) good kd){r rest':List Keyed}{n x:Nat}{Q:ForInStep (Option Unit×Nat)->SortSt->Prop}(PR:PD (kyK κ) good kd a₀ st rs (r++rest'))(lr:r.length=n)(so:Srd (kyK κ) r)(ne:r≠[])(pr:x<=rs.flatten.length∨a₀.size<=rs.flatten.length)
 (q:∀ c st',RnI κ good kd a₀ (x+1) c st'->Q (.yield c) st'):wpS (model prog w) A E s (pushF a₀.size rs.flatten.length n) Q st:=by
 have n1:1<=n:=by rw[← lr];exact List.length_pos_iff.mpr ne
 have fl:∀{rs4:List (List Keyed)},rs4.flatten.length=rs.flatten.length->(rs4++[r]).flatten.length=rs.flatten.length+n:=fun h=>by
  rw[List.flatten_append,List.length_append,h];simp[lr]
 refine wpS_bind (wpS_get ?_);cases eb:(pendingOf st).back? with
 | none=>exact wpS_bind (wpS_modify (wpS_pure (q _ _ ⟨_,_,_,rfl,PR.push so ne rfl lr,fl rfl,by omega⟩)))
 | some bk=>
   obtain⟨s1,n2,pw1⟩:=bk;refine wpS_bind (wpS_mono (wpS_forRange (I:=fun x c st4=>c=(none,()) /\ ∃ rs4,PD (kyK κ) good kd a₀ st4 rs4 (r++rest')) (Q:=fun c st4=>c=(none,()) /\ ∃ rs4,PD (kyK κ) good kd a₀ st4 rs4 (r++rest')) ?_ (fun _ _ h=>h) ⟨rfl,rs,PR⟩) ?_)
   · rintro x4 c st4 _ _ ⟨rfl,rs4,P4⟩
     refine wpS_bind (wpS_get ?_);by_cases g:(pendingOf st4).size > 1
     · rw[if_pos g,Array.getElem?_eq_getElem (show(pendingOf st4).size - 2 < (pendingOf st4).size by omega)]
       refine wpS_ite (fun _=>?_) (fun _=>?_)
       · exact wpS_pure ⟨rfl,rs4,P4⟩
       refine wpS_bind (wpS_merge hL P4 (by have:=P4.psize;omega) fun rs5 st5 P5 _=>?_)
       exact wpS_pure ⟨rfl,rs5,P5⟩
     rw[if_neg g];exact wpS_pure ⟨rfl,rs4,P4⟩
   rintro c st4 ⟨rfl,rs4,P4⟩;have h4:=P4.asize;have h5:=PR.asize;have e:rs4.flatten.length=rs.flatten.length:=by omega
   exact wpS_bind (wpS_modify (wpS_bind (wpS_modify (wpS_pure (q _ _ ⟨_,_,_,rfl,(P4.pow _ _).push so ne e lr,fl e,by omega⟩)))))
theorem wpS_runs(hL:LtOk prog w A E s κ.toKeyOrd (kyK κ) good kd){Q:Unit->SortSt->Prop}(hk:kindOf st=kd)(hf:failedOf st=none)(hp:pendingOf st=#[])(gd:∀ x∈(arrOf st).toList,good x)
 (q:∀ st',(arrOf st').Perm (arrOf st)->failedOf st'=none->Srd (kyK κ) (arrOf st').toList->Q () st'):wpS (model prog w) A E s sortRuns' Q st:=by
 have P0:PD (kyK κ) good kd (arrOf st) st [] (arrOf st).toList:=⟨Array.Perm.refl _,hk,hf,rfl,by rw[hp];rfl,(fun r hr=>nomatch hr),gd⟩
 rw[runsX_eq];refine wpS_bind (wpS_get (wpS_bind (wpS_mono (wpS_forRange (I:=RnI κ good kd (arrOf st)) (Q:=fun c st'=>∃ lo rs,c=(none,lo)/\PD (kyK κ) good kd (arrOf st) st' rs []) ?_ ?_ ⟨0,[],_,rfl,P0,rfl,.inl (Nat.le_refl _)⟩) ?_)))
 · rintro x c st1 _ hx ⟨lo,rs,rest,rfl,P,rfl,pr⟩
   have sz:=P.asize;refine wpS_ite (fun g=>?_) (fun g=>?_)
   · have g:rs.flatten.length ≥ (arrOf st).size:=g
     obtain rfl:rest=[]:=List.length_eq_zero_iff.mp (by omega)
     exact wpS_pure ⟨_,rs,rfl,P⟩
   have g:¬ rs.flatten.length ≥ (arrOf st).size:=g;have es:(arrOf st1).size=(arrOf st).size:=P.pm.size_eq;refine wpS_bind (wpS_count ⟨hL,P.kd,P.gd,by show rs.flatten.length+_<=_;omega⟩ (by show 1<=_ - rs.flatten.length;omega) fun m st2 S2 m1 m2 so2=>?_)
   have m2:m<=(arrOf st).size - rs.flatten.length:=m2;refine wpS_ite (fun g2=>?_) (fun g2=>?_)
   · refine wpS_bind (wpS_lift (wpAny_rule ⟨rfl,?_⟩))
     have f1:m<=min ((arrOf st).size - rs.flatten.length) (minRun' (arrOf st).size (arrOf st).size 0):=by omega
     have f2:rs.flatten.length+min ((arrOf st).size - rs.flatten.length) (minRun' (arrOf st).size (arrOf st).size 0)<=(arrOf st).size:=by omega
     refine wpS_bind (wpS_binS ⟨hL,P.kd,P.gd,by rw[es];exact f2⟩ S2 f1 so2 fun st3 S3 so3=>?_)
     obtain⟨r,rest',PR,lr,so,ne⟩:=P.run S3 so3 (Nat.le_trans m1 f1) f2;exact wpS_push hL PR lr so ne pr fun c st' h=>h
   obtain⟨r,rest',PR,lr,so,ne⟩:=P.run S2 so2 m1 (by omega)
   exact wpS_push hL PR lr so ne pr fun c st' h=>h
 · rintro c st' ⟨lo,rs,rest,rfl,P,rfl,pr⟩
   have sz:=P.asize;obtain rfl:rest=[]:=List.length_eq_zero_iff.mp (by omega)
   exact⟨_,rs,rfl,P⟩
 rintro c st1 ⟨lo,rs,rfl,P⟩;have le:rs.length<=(arrOf st).size:=by
  have:=flat_le fun r hr=>(P.so r hr).2;have h2:=P.asize;rw[List.length_nil,Nat.add_zero]at h2;omega
 refine wpS_bind (wpS_mono (wpS_forRange (I:=fun x c st'=>c=(none,()) /\ ∃ rs,PD (kyK κ) good kd (arrOf st) st' rs []/\(rs.length<=1∨rs.length+x<=(arrOf st).size)) (Q:=fun c st'=>c=(none,()) /\ ∃ rs,PD (kyK κ) good kd (arrOf st) st' rs []/\rs.length<=1) ?_ ?_ ⟨rfl,rs,P,.inr (by omega)⟩) ?_)
 · rintro x c st2 _ hx ⟨rfl,rs2,P2,pr⟩
   have ps:=P2.psize;refine wpS_bind (wpS_get ?_);refine wpS_ite (fun g=>?_) (fun g=>?_)
   · exact wpS_pure ⟨rfl,rs2,P2,by omega⟩
   refine wpS_bind (wpS_merge hL P2 ?_ fun rs3 st3 P3 l3=>?_)
   · have le_:∀(c:Prop) [Decidable c] (n:Nat),(if c then n - 1 else n)<=n:=fun c _ n=>by split <;> omega
     exact Nat.lt_of_le_of_lt (Nat.succ_le_succ (le_ _ _)) (by omega)
   exact wpS_pure ⟨rfl,rs3,P3,by omega⟩
 · rintro c st2 ⟨rfl,rs2,P2,pr⟩
   exact⟨rfl,rs2,P2,by omega⟩
 rintro c st2 ⟨rfl,rs2,P2,l2⟩;refine wpS_pure (q st2 P2.pm P2.fl ?_);rw[P2.eq,List.append_nil];exact Srd.one (fun r hr=>(P2.so r hr).1) l2
end
section
variable{prog:Program}{w:World}{A:Around}{E:Value->Shared->Prop}{s:Shared}{κ:PyProof.Rows.KeyKind}{good:Keyed->Prop}{kd:SortKind}
noncomputable def kyV(κ:PyProof.Rows.KeyKind)(v:Value):κ.α:=(κ.keyOf v).getD κ.dflt
noncomputable def SrdV(κ:PyProof.Rows.KeyKind)(l:List Value):Prop:=l.Pairwise fun x y=>κ.kle (kyV κ x) (kyV κ y)
theorem out_of{vs:List Value}{xs:Array Keyed}(hp:xs.Perm (pairsOf vs))(hs:Srd (kyK κ) xs.toList):(xs.map (·.2)).toList.Perm vs/\SrdV κ (xs.map (·.2)).toList:=by
 have hl:xs.toList.Perm (vs.zip vs):=by rw[← pairsOf_toList];exact Array.perm_iff_toList_perm.mp hp
 have e1:(vs.zip vs).map Prod.snd=vs:=List.map_snd_zip (Nat.le_refl _);rw[Array.toList_map];refine⟨by have:=hl.map Prod.snd;rw[e1]at this;exact this,?_⟩
 refine List.pairwise_map.mpr (List.Pairwise.imp_of_mem (fun {x y} hx hy h=>?_) hs);have ex:=(mem_zip_self (hl.mem_iff.mp hx)).1;have ey:=(mem_zip_self (hl.mem_iff.mp hy)).1;have h:κ.kle (kyV κ x.1) (kyV κ y.1):=h;rw[ex,ey]at h;exact h
theorem Srd.short:∀{l:List Keyed},l.length < 2->Srd (kyK κ) l
 | [],_=>List.Pairwise.nil
 | [x],_=>List.pairwise_singleton _ _
 | _::_::_,h=>by simp at h;omega
noncomputable abbrev sortingH(h:Heap)(a:Addr)(vs:List Value):Heap:=((h.update a (Obj.mapSeq fun _=>#[])).push (seqObj "tuple" vs.toArray 0)).push (seqObj "list" #[] 0)
theorem list_sortG{a:Addr}{vs:List Value}{n:Nat}{P:PySem.Fin->Shared->Prop}(ho:s.heap.get? a=some (seqObj "list" vs.toArray n))(hz:vs.length<=sizeLine)
 (hK:2<=vs.length->wpAny (model prog w) A (keyKind' vs.toArray) (fun k s'=>s'={ s with heap:=sortingH s.heap a vs } /\ k=kd) E { s with heap:=sortingH s.heap a vs })
 (hL:LtOk prog w A E { s with heap:=sortingH s.heap a vs } κ.toKeyOrd (kyK κ) good kd) (gd:∀ v∈vs,good (v,v))
 (h:∀ out:Array Value,out.toList.Perm vs->SrdV κ out.toList->P (.done (.ret .none)) { s with heap:=sortedHeap s.heap a vs out }) :
 wpAny (model prog w) A (Builtin.«list.sort» ⟨[.ref a],[]⟩) P E s:=by
 rw[list_sort_plain];have ha:a < s.heap.objs.size:=Heap.lt_size ho;refine wpAny_bind (listItems_at ho rfl ?_);refine wpAny_bind (listUpdate_at ho rfl ?_ (by rw[List.size_toArray];exact hz))
 obtain⟨e1,h1⟩:∃ e1,(s.heap.update a (Obj.mapSeq fun _=>#[])).get? a=some (seqObj "list" #[] e1):=⟨_,get?_update_seq ho (fun _=>#[])⟩;refine wpAny_bind (seqEpoch_at h1 rfl ?_);refine wpAny_bind (wpAny_newTuple ?_ (by exact hz))
 refine wpAny_bind (wpAny_newList ?_);refine wpAny_holding ?_;have h6:(sortingH s.heap a vs).get? a=some (seqObj "list" #[] e1):=by
  rw[Heap.get?_push_ne _ _ _ (by rw[size_push',Heap.size_update];exact Nat.ne_of_lt (Nat.lt_succ_of_lt ha)),Heap.get?_push_ne _ _ _ (by rw[Heap.size_update];exact Nat.ne_of_lt ha)]
  exact h1
 show wpAny (model prog w) A _ P E { s with heap:=sortingH s.heap a vs }
 dsimp only
 have sz:vs.toArray.size=vs.length:=by simp
 have fin_:∀ xs:Array Keyed,xs.Perm (pairsOf vs)->Srd (kyK κ) xs.toList->P (.done (.ret .none)) { s with heap:=sortedHeap s.heap a vs (xs.map (·.2)) }:=fun xs p1 p2=>by
  obtain⟨q1,q2⟩:=out_of p1 p2;exact h _ q1 q2
 by_cases g:vs.toArray.size < 2
 · rw[if_pos g,if_pos g]
   refine wpAny_bind (wpAny_pure ?_);rw[StateT.run_pure];refine wpAny_bind (wpAny_pure ?_)
   dsimp only
   refine wpAny_bind (seqEpoch_at h6 rfl ?_);refine wpAny_bind (listUpdate_at h6 rfl ?_ (hsz2:=by rw[Array.size_map];show(pairsOf vs).size<=_;rw[pairsOf_size];omega))
   simp only[bne_self_eq_false,Bool.false_eq_true,if_false];refine wpAny_pure (fin_ (vs.toArray.zip vs.toArray) (Array.Perm.refl _) ?_);exact Srd.short (by rw[Array.length_toList];show(pairsOf vs).size < 2;rw[pairsOf_size];omega)
 rw[if_neg g,if_neg g];refine wpAny_bind (wpAny_mono (hK (by omega)) ?_ fun _ _ e=>e)
 rintro k s' ⟨rfl,rfl⟩;refine wpAny_bind (wpAny_mono (wpS_runs hL (st:=SortSt.mk' k (vs.toArray.zip vs.toArray) #[] 7 none)
  (Q:=fun _ st'=>(arrOf st').Perm (pairsOf vs)/\failedOf st'=none/\Srd (kyK κ) (arrOf st').toList) rfl rfl rfl (fun x hx=>?_) fun st' a1 a2 a3=>⟨a1,a2,a3⟩) ?_ fun _ _ e=>e)
 · have hx:x∈(pairsOf vs).toList:=hx
   rw[pairsOf_toList]at hx;obtain⟨e,m⟩:=mem_zip_self hx;obtain⟨x1,x2⟩:=x;cases e;exact gd _ m
 rintro⟨⟨⟩,st'⟩ s' ⟨rfl,hp,hf,hs⟩
 dsimp only
 refine wpAny_bind (seqEpoch_at h6 rfl ?_);refine wpAny_bind (listUpdate_at h6 rfl ?_ (hsz2:=by refine Nat.le_trans (Nat.le_of_eq ((Array.size_map ..).trans (hp.size_eq.trans (pairsOf_size _)))) ?_;omega))
 rw[hf];simp only[bne_self_eq_false,Bool.false_eq_true,if_false];exact wpAny_pure (fin_ _ hp hs)
theorem sortedC{r:Addr}{R:Heap->List Value->Prop}{κ:Heap->PyProof.Rows.KeyKind}{good:Heap->Keyed->Prop}{Q:Value->Shared->Prop}(hh:A.handled=none)
 (hC:∀(A':Around) (E':Value->Shared->Prop) (Q':List Value->Shared->Prop),A'.handled=none->(∀ h' tk acc,(∀ b o,s.heap.get? b=some o->h'.get? b=some o)->s.heap.objs.size<=h'.objs.size->R h' acc->acc.length<=sizeLine->Q' acc { s with heap:=h',toks:=tk })->wpAny (model prog w) A' (collect (.ref r)) Q' E' s)
 (hK:∀ h' acc (s':Shared),R h' acc->(∀ b o,h'.get? b=some o->s'.heap.get? b=some o)->2<=acc.length -> ∀ Q':SortKind->Shared->Prop,Q' kd s' -> ∀ A' E',wpAny (model prog w) A' (keyKind' acc.toArray) Q' E' s')
 (hL:∀ h' acc (s':Shared) A' E',R h' acc->(∀ b o,h'.get? b=some o->s'.heap.get? b=some o)->LtOk prog w A' E' s' (κ h').toKeyOrd (kyK (κ h')) (good h') kd) (gd:∀ h' acc,R h' acc -> ∀ v∈acc,good h' (v,v))
 (h:∀ h1 h' tk a acc (out:Array Value) e,R h1 acc->(∀ b o,s.heap.get? b=some o->h1.get? b=some o)->(∀ b o,h1.get? b=some o->h'.get? b=some o)->s.heap.objs.size<=h1.objs.size->h1.objs.size<=a->h'.get? a=some (seqObj "list" out e)->out.toList.Perm acc->SrdV (κ h1) out.toList->Q (.ref a) { s with heap:=h',toks:=tk }) :
 wpAny (model prog w) A (call (.builtin "sorted") [.ref r]) Q E s:=by
 refine Calls.call_function_entry kind_sorted plain_sorted entry_sorted (args_sorted1 _) ?_;unfold Builtin.«sorted»;refine wpAny_bind (m:=checkCount "sorted" 1 1 _) (wpAny_pure ?_);refine wpAny_bind (hC _ _ _ hh fun h' tk acc hk hsz hacc hl=>?_);refine wpAny_bind (wpAny_newList ?_ hl);have hoL:(h'.push (seqObj "list" acc.toArray 0)).get? h'.objs.size=some (seqObj "list" acc.toArray 0):=Heap.get?_push_size _ rfl;have kp:∀ b o,h'.get? b=some o->(sortingH (h'.push (seqObj "list" acc.toArray 0)) h'.objs.size acc).get? b=some o:=fun b o hb'=>by
  have lt:=Heap.lt_size hb';rw[Heap.get?_push_ne _ _ _ (by rw[size_push',Heap.size_update,size_push'];exact Nat.ne_of_lt (Nat.lt_succ_of_lt (Nat.lt_succ_of_lt lt))),Heap.get?_push_ne _ _ _ (by rw[Heap.size_update,size_push'];exact Nat.ne_of_lt (Nat.lt_succ_of_lt lt)),Heap.get?_update_other _ _ (Ne.symm (Nat.ne_of_lt lt))]
  exact Heap.get?_push_of_some _ hb'
 refine wpAny_bind (wpAny_holding (wpAny_call_entry slot_list_sort ⟨_,hoL,rfl⟩ entry_list_sort (list_sortG (κ:=κ h') (good:=good h') (kd:=kd) hoL hl (fun h2=>hK h' acc _ hacc kp h2 _ ⟨rfl,rfl⟩ _ _) (hL h' acc _ _ _ hacc kp) (gd h' acc hacc) fun out a1 a2=>⟨_,rfl,?_⟩) (args_list_sort _)));obtain⟨e,he⟩:=sortedHeap_at (out:=out) hoL;refine wpAny_pure ⟨_,rfl,h h' _ tk h'.objs.size acc out e hacc hk (fun b o hb'=>?_) hsz (Nat.le_refl _) he a1 a2⟩;have hlt:=Heap.lt_size hb';rw[sortedHeap_old (Nat.ne_of_lt hlt) (by rw[size_push'];exact Nat.lt_succ_of_lt hlt)]
 exact Heap.get?_push_of_some _ hb'
end
section
variable{prog:Program}{w:World}{A:Around}{E:Value->Shared->Prop}{s:Shared}
end
noncomputable def pairAt(h:Heap):Value->Option (Int×Int)
 | .ref a=>match h.get? a with
   | some o=>match o.data with
     | .seq xs _=>match xs.toList with
       | [.int x _,.int y _]=>some (x,y)
       | _=>none
     | _=>none
   | none=>none
 | _=>none
noncomputable def ltP(a b:Int×Int):Bool:=decide (a.1 < b.1∨(a.1=b.1/\a.2 < b.2))
noncomputable def leP(a b:Int×Int):Prop:=ltP b a=false
theorem leP.antisymm{a b:Int×Int}(h:leP a b)(g:leP b a):a=b:=by
 have h1:=of_decide_eq_false h;have g1:=of_decide_eq_false g;exact Prod.ext (by omega) (by omega)
noncomputable def κP(h:Heap):PyProof.Rows.KeyKind where
 α:=Int×Int
 blt:=ltP
 irrefl:=fun a=>decide_eq_false (by omega)
 trans:=fun a b c h1 h2=>by
  have:=of_decide_eq_true h1;have:=of_decide_eq_true h2;exact decide_eq_true (by omega)
 negTrans:=fun a b c h=>by
  have:=of_decide_eq_true h;by_cases g:a.1 < b.1∨(a.1=b.1/\a.2 < b.2)
  · exact .inl (decide_eq_true g)
  exact .inr (decide_eq_true (by omega))
 total:=fun a b h1 h2=>leP.antisymm (b:=b) h2 h1
 keyOf:=pairAt h
 dflt:=(0,0)
noncomputable def PairW(h:Heap)(v:Value)(p:Int×Int):Prop:=∃ a o n t u,v=.ref a/\h.get? a=some o/\o.cls=.type "tuple" /\ o.data=.seq #[.int p.1 t,.int p.2 u] n
theorem PairW.key{h:Heap}{v:Value}{p:Int×Int}(g:PairW h v p):pairAt h v=some p:=by
 obtain⟨a,o,n,t,u,rfl,e1,_,e2⟩:=g;unfold pairAt;simp only[e1,e2]
noncomputable def kP(h:Heap)(v:Value):Int×Int:=(pairAt h v).getD (0,0)
section
variable{prog:Program}{w:World}{A:Around}{E:Value->Shared->Prop}{s:Shared}{h:Heap}
noncomputable def goodP(h:Heap)(x:Keyed):Prop:=∃ p,PairW h x.1 p
theorem ltok_pair(hk:∀ b o,h.get? b=some o->s.heap.get? b=some o):LtOk prog w A E s (κP h).toKeyOrd (kyK (κP h)) (goodP h) (tuples' true):=by
 rintro⟨x1,x2⟩ ⟨y1,y2⟩ st Q ⟨p,gx⟩ ⟨q,gy⟩ hk' qq;have ex:kyK (κP h) (x1,x2)=p:=by show(pairAt h x1).getD _=_;rw[gx.key];rfl
 have ey:kyK (κP h) (y1,y2)=q:=by show(pairAt h y1).getD _=_;rw[gy.key];rfl
 rw[ex,ey]at qq;obtain⟨a,o,n,t,u,rfl,e1,_,e2⟩:=gx;obtain⟨a',o',n',t',u',rfl,e1',_,e2'⟩:=gy;rw[lt'_eq];refine wpS_bind (wpS_get ?_);rw[hk'];refine wpS_bind (wpS_lift (wpAny_attempt (W.kat_lt (hk _ _ e1) e2 (hk _ _ e1') e2' ?_)));show W.KatLex prog w A true false _ [(Value.int p.1 t,Value.int q.1 t'),(Value.int p.2 u,Value.int q.2 u')] 0 s;have fin:∀ b:Bool,b=ltP p q->wpS (model prog w) A E s (pure (some b)) Q st:=fun b e=>wpS_pure (by rw[e];exact qq)
 refine W.kat_cons (wpAny_eqBool_int ?_);refine W.kat_go (fun h1=>W.kat_yes ?_) (fun h1=>W.kat_no (oneLt_int ⟨rfl,?_⟩))
 · have h1:p.1=q.1:=by simpa using h1
   refine W.kat_cons (wpAny_eqBool_int ?_);refine W.kat_go (fun h2=>W.kat_yes (W.kat_nil ⟨rfl,?_⟩)) (fun h2=>W.kat_no (W.kat_one _ _ (lt_int ⟨rfl,?_⟩)))
   · have h2:p.2=q.2:=by simpa using h2
     exact fin _ (decide_eq_false (by omega)).symm
   refine fin _ ?_;show decide (p.2 < q.2)=decide _;rw[decide_eq_decide];omega
 have h1:¬ p.1=q.1:=by simpa using h1
 refine fin _ ?_;show decide (p.1 < q.1)=decide _;rw[decide_eq_decide];omega
theorem kind_pairs{acc:List Value}{ps:List (Int×Int)}(hP:Paired (PairW h) acc ps)(hk:∀ b o,h.get? b=some o->s.heap.get? b=some o)(h2:2<=acc.length){Q:SortKind->Shared->Prop}(q:Q (tuples' true) s):wpAny (model prog w) A (keyKind' acc.toArray) Q E s:=by
 have tp:∀{acc:List Value}{ps:List (Int×Int)},Paired (PairW h) acc ps -> ∃ fs:List Value,W.KatTups s.heap acc fs/\fs.length=acc.length /\ ∀ v∈fs,∃ n t,v=.int n t:=fun hP=>by
  induction hP with
  | nil=>exact⟨[],.nil,rfl,fun v hv=>nomatch hv⟩
  | cons g _ ih=>
    obtain⟨fs,a1,a2,a3⟩:=ih;obtain⟨a,o,n,t,u,rfl,e1,e2,e3⟩:=g;refine⟨_::fs,W.KatTups.cons (hk _ _ e1) e2 e3 rfl a1,by rw[List.length_cons,a2];rfl,fun v hv=>?_⟩
    rcases List.mem_cons.mp hv with z | z
    · exact⟨_,_,z⟩
    exact a3 v z
 obtain⟨fs,a1,a2,a3⟩:=tp hP;refine W.kat_kind (T:=.type "int") a1 (by omega) (fun v hv=>?_) rfl q
 obtain⟨n,t,rfl⟩:=a3 v hv;exact fun A Q E s _ q=>wpAny_pure q
end
noncomputable def PairV(H:Hp)(v:V)(p:Int×Int):Prop:=∃ a,v=.ref a/\H a=some (.tup [.int p.1,.int p.2])
noncomputable def toV:Value->V
 | .ref a=>.ref a
 | _=>.non
theorem PairV.rel{X:Cx}{pins:List (Addr×Obj)}{σ:L2.St}{H:Hp}{s:Shared}(I:L2.Inv X pins σ H s){x:V}{v:Value}{p:Int×Int}(h:PairV H x p)(r:RelV x v):PairW s.heap v p/\x=toV v:=by
 obtain⟨a,rfl,ha⟩:=h;obtain rfl:v=Value.ref a:=r;obtain⟨_,its,rv,o,e1,e2,n,e3⟩:=I.hok a _ ha;refine⟨?_,rfl⟩;cases rv with
 | cons r1 rv=>
   cases rv with
   | cons r2 rv=>
     cases rv;obtain⟨t,rfl⟩:=r1;obtain⟨u,rfl⟩:=r2;exact⟨a,o,n,t,u,rfl,e1,e2,e3⟩
theorem paired_of_all{α β γ:Type}{R:β -> γ -> Prop}{f:α -> β}{g:α -> γ}:∀{l:List α},(∀ x∈l,R (f x) (g x))->Paired R (l.map f) (l.map g)
 | [],_=>.nil
 | x::l,h=>.cons (h x List.mem_cons_self) (paired_of_all fun y hy=>h y (List.mem_cons_of_mem _ hy))
theorem pairs_lists{X:Cx}{pins:List (Addr×Obj)}{σ:L2.St}{H:Hp}{s:Shared}(I:L2.Inv X pins σ H s):∀{vs:List V}{its:List Value}{ps:List (Int×Int)},Vals vs its->Paired (PairV H) vs ps->Paired (PairW s.heap) its ps/\vs=its.map toV/\ps=its.map (kP s.heap) /\ ∀ v∈its,PairV H (toV v) (kP s.heap v)/\RelV (toV v) v
 | _,_,_,.nil,.nil=>⟨.nil,rfl,rfl,fun v hv=>nomatch hv⟩
 | _,_,_,.cons (a:=x) (b:=v) r rs,.cons (b:=p) g gs=>by
   obtain⟨a1,a2,a3,a4⟩:=pairs_lists I rs gs;obtain⟨b1,b2⟩:=PairV.rel I g r;have ek:p=kP s.heap v:=by show p=(pairAt s.heap v).getD _;rw[b1.key];rfl
   refine⟨.cons b1 a1,by rw[a2,b2];rfl,by rw[a3,ek];rfl,fun u hu=>?_⟩
   rcases List.mem_cons.mp hu with z | z
   · rw[z,← ek,← b2]
     exact⟨g,r⟩
   exact a4 u z
theorem call_sortedLP{X:Cx}:CallR X (.builtin "sorted") (fun xs H Q=>∃(l:Addr) (vs:List V) (ps:List (Int×Int)),xs=[.ref l]/\H l=some (.lst vs)/\Paired (PairV H) vs ps/\X.calm=true /\ ∀(p:Addr) (ws:List V) (qs:List (Int×Int)),H p=none->ws.Perm vs->Paired (PairV H) ws qs->qs.Perm ps->qs.Pairwise leP->Q (.ref p) (upd H p (.lst ws))):=by
 intro pins s σ H xs us Q I rr h;obtain⟨l,vs,ps,rfl,hl,hp,hc,q⟩:=h;obtain⟨u,rfl,rx⟩:=vals1 rr;cases rx;obtain⟨its,r,pl,z⟩:=I.list (SqL.of hl);have hlen:=r.length;obtain⟨a1,a2,a3,a4⟩:=pairs_lists I r hp;have hL:s.heap.IsList l its.toArray:=pl.isList;have hz:its.length<=sizeLine:=by omega
 refine sortedC (κ:=fun _=>κP s.heap) (good:=fun _=>goodP s.heap) (kd:=tuples' true) (R:=fun h' acc=>acc=its /\ ∀ b o,s.heap.get? b=some o->h'.get? b=some o) (I.ok.hd hc) (fun A' E' Q' hA h=>?_) (fun h' acc s' hI hk h2 Q' q' A' E'=>?_) (fun h' acc s' A' E' hI hk=>ltok_pair fun b o e=>hk _ _ (hI.2 _ _ e)) (fun h' acc hI v hv=>?_) fun h1 h' tk b acc out e hI hk1 hk2 hs1 hb ho b1 b2=>?_
 · refine collect_list hL (h _ _ its (fun b o eb=>?_) ?_ ⟨rfl,fun b o eb=>?_⟩ hz) hz
   · rw[Heap.get?_update_other _ _ (Ne.symm (Nat.ne_of_lt (Heap.lt_size eb)))]
     exact Heap.get?_push_of_some _ eb
   · rw[Heap.size_update,size_push']
     exact Nat.le_succ _
   rw[Heap.get?_update_other _ _ (Ne.symm (Nat.ne_of_lt (Heap.lt_size eb)))];exact Heap.get?_push_of_some _ eb
 · obtain⟨rfl,hk3⟩:=hI
   exact kind_pairs a1 (fun b o e=>hk _ _ (hk3 _ _ e)) h2 q'
 · obtain⟨rfl,hk3⟩:=hI
   obtain⟨x,hx⟩:=List.mem_iff_getElem?.mp hv;obtain⟨p,_,hp⟩:=paired_get a1 hx;exact⟨p,hp⟩
 obtain⟨rfl,hk3⟩:=hI;have hv:∀ v∈out.toList,PairV H (toV v) (kP s.heap v)/\RelV (toV v) v:=fun v hv=>a4 v (b1.mem_iff.mp hv);have rv:Vals (out.toList.map toV) (out.toList.map id):=paired_of_all fun v h=>(hv v h).2;rw[List.map_id]at rv;have hlen2:(out.toList.map toV).length<=sizeLine:=by rw[List.length_map,b1.length_eq];exact hz
 refine⟨.ref b,_,I.laid (t':=tk) (o:=.lst (out.toList.map toV)) (fun c o e=>hk2 c o (hk1 c o e)) (Nat.le_trans hs1 hb) ⟨hlen2,out.toList,e,rv,by rw[Array.toArray_toList];exact ho⟩,rfl,q b _ (out.toList.map (kP s.heap)) (I.hok.fresh (Nat.le_trans hs1 hb)) ?_ (paired_of_all fun v h=>(hv v h).1) ?_ ?_⟩
 · rw[a2]
   exact b1.map _
 · rw[a3]
   exact b1.map _
 exact List.pairwise_map.mpr b2
section
variable{prog:Program}{w:World}{A:Around}{E:Value->Shared->Prop}{s:Shared}
end
theorem memFlat{f m:Int}{R:MRows}(P:POk f m R){p:Int×Int}:p∈R.flatten ↔ sLook f m R p.1=some p.2:=by
 constructor
 · intro h
   obtain⟨r,hr,hp⟩:=List.mem_flatten.mp h;obtain⟨i,hi⟩:=List.mem_iff_getElem?.mp hr;have e:=P.at_ i r p hi hp;show rLook (R.getD (plc f m R.length p.1) []) p.1=some p.2;rw[e,List.getD_eq_getElem?_getD,hi];exact rLook_in (P.ok r hr) hp
 intro h;have h:rLook (R.getD (plc f m R.length p.1) []) p.1=some p.2:=h;rw[List.getD_eq_getElem?_getD]at h;cases e:R[plc f m R.length p.1]? with
 | none=>rw[e]at h;exact nomatch h
 | some r=>
   rw[e]at h;exact List.mem_flatten.mpr ⟨r,List.mem_of_getElem? e,rLook_has h⟩
theorem row_nodup{r:MRow}(ok:ROk r):r.Nodup:=(List.pairwise_map.mp ok).imp fun h e=>h (congrArg _ e)
theorem sorted_one:∀{a b:List (Int×Int)},a.Pairwise leP->b.Pairwise leP->a.Perm b->a=b
 | [],b,_,_,p=>(List.nil_perm.mp p).symm
 | x::a,[],_,_,p=>(List.perm_nil.mp p)
 | x::a,y::b,ha,hb,p=>by
   have h1:=List.pairwise_cons.mp ha;have h2:=List.pairwise_cons.mp hb;have e:x=y:=by
    have hx:=p.mem_iff.mp (List.mem_cons_self (a:=x));have hy:=p.mem_iff.mpr (List.mem_cons_self (a:=y));rcases List.mem_cons.mp hx with z | z
    · exact z
    rcases List.mem_cons.mp hy with z' | z'
    · exact z'.symm
    exact(h1.1 y z').antisymm (h2.1 x z)
   subst e;rw[sorted_one h1.2 h2.2 (List.Perm.cons_inv p)]
noncomputable def itS(p c:Nat):Nat->Option Nat×Nat×Nat->Option Nat×Nat×Nat
 | 0,s=>s
 | k+1,s=>itS p c k (deedS p c s)
theorem itS_add(p c:Nat):∀(a b:Nat) (s:Option Nat×Nat×Nat),itS p c (a+b) s=itS p c b (itS p c a s)
 | 0,b,s=>by rw[Nat.zero_add];rfl
 | a+1,b,s=>by
   rw[show a+1+b=(a+b)+1 by omega]
   exact itS_add p c a b _
noncomputable def okS(c:Nat)(s:Option Nat×Nat×Nat):Bool:=s.1.isNone && decide (wantN s.2.2 c=s.2.2)
theorem okS_stay{p c:Nat}{s:Option Nat×Nat×Nat}(h:okS c s=true):deedS p c s=s:=by
 obtain⟨e,mv,n⟩:=s;cases e with
 | some e=>cases h
 | none=>
   have h:wantN n c=n:=of_decide_eq_true h;show(if wantN n c=n then(none,mv,n)else(some n,mv,wantN n c):Option Nat×Nat×Nat)=_;rw[if_pos h]
theorem okS_it{p c:Nat}{s:Option Nat×Nat×Nat}(h:okS c s=true):∀ k,itS p c k s=s
 | 0=>rfl
 | k+1=>by
   show itS p c k (deedS p c s)=s;rw[okS_stay h,okS_it h k]
theorem first_end{p c:Nat}(hp:0 < p):∀(k e mv n:Nat),e<=mv+k*p->0 < k -> ∃ j,j<=k/\itS p c j (some e,mv,n)=begS c (none,0,n)
 | 0,e,mv,n,_,h=>absurd h (by omega)
 | k+1,e,mv,n,h,_=>by
   by_cases z:e<=mv+p
   · refine⟨1,by omega,?_⟩
     show begS c (if e<=mv+p then(none,0,n)else(some e,mv+p,n))=_;rw[if_pos z]
   have hk:0 < k:=by
    cases k with
    | zero=>rw[Nat.zero_add,Nat.one_mul]at h;exact absurd h z
    | succ k=>exact Nat.zero_lt_succ _
   obtain⟨j,h1,h2⟩:=first_end (c:=c) hp k e (mv+p) n (by rw[Nat.add_mul,Nat.one_mul]at h;omega) hk
   refine⟨j+1,by omega,?_⟩
   show itS p c j (begS c (if e<=mv+p then(none,0,n)else(some e,mv+p,n)))=_;rw[if_neg z];exact h2
noncomputable def allOk:Bool:=[1,2,3,4,5,6,7,8].all fun p=>(List.range 40).all fun c=>[4,8,16,32,64].all fun n=>okS c (itS p c (120 / p+6) (begS c (none,0,n)))
theorem all_ok:allOk=true:=by decide +kernel
theorem one_ok{p c n:Nat}(hp:0 < p)(hp8:p<=8)(hc:c<=39)(hn:isSize n)(hn64:n<=64):okS c (itS p c (120 / p+6) (begS c (none,0,n)))=true:=by
 have h:=all_ok;unfold allOk at h;have h:=List.all_eq_true.mp h p (by simp only[List.mem_cons,List.not_mem_nil,or_false];omega)
 have h:=List.all_eq_true.mp h c (List.mem_range.mpr (by omega))
 refine List.all_eq_true.mp h n ?_;unfold isSize at hn;simp only[List.mem_cons,List.not_mem_nil,or_false]at hn ⊢;omega
theorem settle{p c n mv:Nat}{e:Option Nat}(hp:0 < p)(hp8:p<=8)(hc:c<=39)(hn:isSize n)(hn64:n<=64)(he:∀ x,e=some x->x<=64)(hm:e=none->mv=0):okS c (itS p c (260 / p+8) (e,mv,n))=true:=by
 have d1:64<=(64 / p+1)*p:=by
  have:=Nat.div_add_mod 64 p;have:=Nat.mod_lt 64 hp;rw[Nat.add_mul,Nat.one_mul,Nat.mul_comm];omega
 have d2:64 / p+1+(120 / p+6)<=260 / p+8:=by
  obtain rfl | rfl | rfl | rfl | rfl | rfl | rfl | rfl:p=1∨p=2∨p=3∨p=4∨p=5∨p=6∨p=7∨p=8:=by omega
  all_goals decide
 obtain⟨j,hj,ej⟩:∃ j,j<=64 / p+1/\itS p c j (e,mv,n)=begS c (none,0,n):=by
  cases e with
  | none=>
    rw[hm rfl];exact⟨1,Nat.succ_le_succ (Nat.zero_le _),rfl⟩
  | some x=>exact first_end hp _ x mv n (by have:=he x rfl;omega) (Nat.succ_pos _)
 have o:=one_ok hp hp8 hc hn hn64;rw[← ej]at o;rw[← itS_add]at o;have:260 / p+8=(j+(120 / p+6))+(260 / p+8 - (j+(120 / p+6))):=by omega
 rw[this,itS_add,okS_it o];exact o
noncomputable def lks(f m:Int)(pc:Nat):Nat->MT->MT
 | 0,M=>M
 | k+1,M=>mLook f m pc (lks f m pc k M)
theorem lks_ok{f m:Int}{pc:Nat}{M:MT}(T:TOk f m M)(R:Rat M):∀ k,TOk f m (lks f m pc k M)/\Rat (lks f m pc k M)/\(∀ j,tLook f m (lks f m pc k M) j=tLook f m M j)/\cnt (lks f m pc k M)=cnt M
 | 0=>⟨T,R,fun _=>rfl,rfl⟩
 | k+1=>by
   obtain⟨T1,R1,h1,h2⟩:=lks_ok T R k;obtain⟨T2,g1,g2⟩:=goOn_ok (pc:=pc) T1;obtain⟨T3,b1,b2⟩:=beg_ok T2;exact⟨T3,Rat.deed (p:=pc) T1 R1 (.look 0),fun j=>((b1 j).trans (g1 j)).trans (h1 j),(b2.trans g2).trans h2⟩
theorem lks_shp{f m:Int}{pc:Nat}{M:MT}(T:TOk f m M)(R:Rat M):∀ k,shp (lks f m pc k M)=itS pc (cnt M) k (shp M)
 | 0=>rfl
 | k+1=>by
   obtain⟨T1,R1,h1,h2⟩:=lks_ok (pc:=pc) T R k;have e:=shp_deedS (p:=pc) T1 (.look 0);have hc:cnt (mLook f m pc (lks f m pc k M))=cnt M:=(lks_ok (pc:=pc) T R (k+1)).2.2.2;show shp (mLook f m pc (lks f m pc k M))=_;have e:shp (mLook f m pc (lks f m pc k M))=deedS pc (cnt (mLook f m pc (lks f m pc k M))) (shp (lks f m pc k M)):=e;rw[e,hc,lks_shp T R k];exact(itS_add pc (cnt M) k 1 (shp M)).symm
theorem look_stay{f m:Int}{pc:Nat}{M:MT}(h:okS (cnt M) (shp M)=true):mLook f m pc M=M:=by
 unfold okS shp at h;rw[Bool.and_eq_true]at h;have e:M.el=none:=by
  cases z:M.el with
  | none=>rfl
  | some E=>have h1:=h.1;rw[z]at h1;cases h1
 have w:wantN M.nw.length (cnt M)=M.nw.length:=of_decide_eq_true h.2;have hc:cnt M=tot M.nw:=by unfold cnt;rw[e];exact Nat.zero_add _
 have g:goOn f m pc M=M:=by unfold goOn;rw[e]
 show beg (goOn f m pc M)=M;rw[g];unfold beg;rw[e];rw[hc]at w;exact if_pos w
theorem settled_of{f m:Int}{M:MT}(T:TOk f m M)(hc:cnt M<=4000)(h:okS (cnt M) (shp M)=true):M.el=none/\cnt M<=M.nw.length/\(M.nw.length=4∨M.nw.length<=8*cnt M):=by
 unfold okS shp at h;rw[Bool.and_eq_true]at h;have e:M.el=none:=by
  cases z:M.el with
  | none=>rfl
  | some E=>have h1:=h.1;rw[z]at h1;cases h1
 have w:wantN M.nw.length (cnt M)=M.nw.length:=of_decide_eq_true h.2;have sz:=T.sz;unfold isSize at sz;simp only[List.mem_cons,List.not_mem_nil,or_false]at sz;refine⟨e,?_⟩;unfold wantN at w;split at w
 · omega
 split at w
 · omega
 omega
theorem nDist_pos(x:Int)(ns:List Int):1<=nDist (x::ns):=by
 obtain⟨q,h1,h2⟩:=has_nodup (x::ns);rw[nDist_len h1 h2];exact List.length_pos_of_mem ((h2 x).mpr List.mem_cons_self)
theorem tch_pos{f m:Int}{pc:Nat}{M:MT}{k:Int}:1<=tch f m pc M k:=by
 unfold tch;exact Nat.le_trans (nDist_pos _ _) (Nat.le_trans (Nat.le_add_left _ _) (Nat.le_add_right _ _))
theorem sLook_in{f m:Int}{N:MRows}{k v:Int}(h:sLook f m N k=some v):(k,v)∈N.flatten:=by
 rw[sLook_getD]at h;obtain⟨r,hr,hk⟩:=getD_mem' (rLook_has h);exact mem_flat.mpr ⟨_,r,hr,hk⟩
theorem tLook_in{f m:Int}{M:MT}{k v:Int}(h:tLook f m M k=some v):(k,v)∈allP M:=by
 unfold tLook at h;unfold allP;cases e:onE f m M k with
 | some w=>
   rw[e]at h;obtain rfl:w=v:=Option.some.inj h;unfold onE at e;cases e2:M.el with
   | none=>rw[e2]at e;cases e
   | some E=>
     rw[e2]at e;exact List.mem_append_left _ (sLook_in e)
 | none=>
   rw[e]at h;exact List.mem_append_right _ (sLook_in h)
theorem ROk.perm{a b:MRow}(h:ROk b)(p:a.Perm b):ROk a:=(p.map _).nodup_iff.mpr h
theorem look_all{f m:Int}{M:MT}{qs:MRow}(T:TOk f m M)(h:qs.Perm (allP M))(k:Int):rLook qs k=tLook f m M k:=by
 have ok:ROk qs:=ROk.perm T.pairs h;cases e:tLook f m M k with
 | some v=>exact rLook_in ok (h.mem_iff.mpr (tLook_in e))
 | none=>
   cases e2:rLook qs k with
   | none=>rfl
   | some v=>
     have:=T.tell (h.mem_iff.mp (rLook_has e2));rw[e]at this;cases this
theorem all_lks{f m:Int}{pc:Nat}{M:MT}(T:TOk f m M)(R:Rat M)(k:Nat):(allP (lks f m pc k M)).Perm (allP M):=by
 obtain⟨T1,_,h1,_⟩:=lks_ok (pc:=pc) T R k;refine(List.perm_ext_iff_of_nodup (row_nodup T1.pairs) (row_nodup T.pairs)).mpr fun p=>⟨fun h=>?_,fun h=>?_⟩
 · exact tLook_in (by rw[← h1];exact T1.tell h)
 exact tLook_in (by rw[h1];exact T.tell h)
end SW
namespace K
open PySem PySem.Spec PyProof.Rows L2 SW
end K
namespace SW
open PySem PySem.Spec PyProof.Rows L2
theorem wVarA{σ:L2.St}{H:Hp}{Q:VK}{v:V}{i:Nat}(h:Q v H)(e:σ[i]?=some (some v):=by with_unfolding_all exact rfl):tVar i σ H Q:=⟨v,e,h⟩
theorem wModA{H:Hp}{Q:VK}{g:Int->Int->V}{i j:Int}(h:Q (g i j) H)(c:0 < j:=by with_unfolding_all omega):rI (fun _ j=>0 < j) g (.int i) (.int j) H Q:=wMod c h
theorem wDivLA{H:Hp}{Q:VK}{g:Int->Int->V}{i j:Int}(h:Q (g i j) H)(c:0 < j/\j < 18446744073709551616:=by with_unfolding_all omega):rI CDivL g (.int i) (.int j) H Q:=wDivL c h
theorem wMulA{H:Hp}{Q:VK}{g:Int->Int->V}{i j:Int}(h:Q (g i j) H)(c:(-18446744073709551616 < i/\i < 18446744073709551616)∨(-18446744073709551616 < j/\j < 18446744073709551616):=by with_unfolding_all omega):rI CMul g (.int i) (.int j) H Q:=wMul c h
theorem wPowA{H:Hp}{Q:VK}{g:Int->Int->V}{i j:Int}(h:Q (g i j) H)(c:0<=j/\j<=1000000/\i.natAbs < 2 ^ 64:=by with_unfolding_all decide):rI CPow g (.int i) (.int j) H Q:=wPow c h
theorem wIxLA{K:W.Frag}{H:Hp}{Q:VK}{v:V}{p:Addr}{xs:List V}{i:Int}(h:Q v H)(e:H p=some (.lst xs):=by first | with_reducible assumption | exact upd_same)(a:atI xs i=some v:=by with_unfolding_all exact rfl):rIxL K (.ref p) (.int i) H Q:=wIxL e a h
theorem wIxTA{K:W.Frag}{H:Hp}{Q:VK}{v:V}{p:Addr}{xs:List V}{i:Int}(h:Q v H)(e:H p=some (.tup xs):=by first | with_reducible assumption | exact upd_same)(a:atI xs i=some v:=by with_unfolding_all exact rfl):rIxT K (.ref p) (.int i) H Q:=wIxT e a h
theorem wSetLA{H:Hp}{v:V}{p:Addr}{xs:List V}{i:Int}{j:Nat}{Q:Hp->Prop}(h:Q (upd H p (.lst (xs.set j v))))(e:H p=some (.lst xs):=by first | with_reducible assumption | exact upd_same)(hj:ixN xs.length i=some j:=by with_unfolding_all exact rfl):rSetL (.ref p) (.int i) v H Q:=wSetL e hj h
theorem wGoA{N N':L2.St->Hp->Prop}{σ:L2.St}{H:Hp}(h:N' σ H)(e:N=N':=by with_reducible assumption):N σ H:=wGo e h
end SW
namespace K
noncomputable section
open PySem PySem.Spec PyProof.Rows L2 SW
local macro_rules | `(tactic| walk_at "W0")=>do
 let h ← `(?_)
 let l ← `(fun _ _=>?_)
 let t ← ("wCons wNil wVarA".splitOn " ").foldrM (fun r t=>do
  let b ← `(tactic| with_reducible refine $(Lean.mkIdent (Lean.Name.mkStr `SW r)) $(if r == "wSeqC" || r == "wCut" then l else h))
  if r == "wIxLA" then `(tactic| first | (with_reducible show rIxL _ (V.ref _) (V.int _) _ _;$b:tactic) | $t:tactic)else if r == "wIxTA" then `(tactic| first | (with_reducible show rIxT _ (V.ref _) (V.int _) _ _;$b:tactic) | $t:tactic)else if r == "wSetLA" then `(tactic| first | (with_reducible show rSetL (V.ref _) (V.int _) _ _ _;$b:tactic) | $t:tactic)else `(tactic| first | $b:tactic | $t:tactic)) (← `(tactic| fail))
 `(tactic| repeat $t:tactic)
local macro_rules | `(tactic| walk_at "W1")=>do
 let h ← `(?_)
 let l ← `(fun _ _=>?_)
 let t ← ("wC wName wGoA".splitOn " ").foldrM (fun r t=>do
  let b ← `(tactic| with_reducible refine $(Lean.mkIdent (Lean.Name.mkStr `SW r)) $(if r == "wSeqC" || r == "wCut" then l else h))
  if r == "wIxLA" then `(tactic| first | (with_reducible show rIxL _ (V.ref _) (V.int _) _ _;$b:tactic) | $t:tactic)else if r == "wIxTA" then `(tactic| first | (with_reducible show rIxT _ (V.ref _) (V.int _) _ _;$b:tactic) | $t:tactic)else if r == "wSetLA" then `(tactic| first | (with_reducible show rSetL (V.ref _) (V.int _) _ _ _;$b:tactic) | $t:tactic)else `(tactic| first | $b:tactic | $t:tactic)) (← `(tactic| fail))
 `(tactic| repeat $t:tactic)
local macro_rules | `(tactic| walk_at "W2")=>do
 let h ← `(?_)
 let l ← `(fun _ _=>?_)
 let t ← ("wSeqC wCut wAsg wName wOp wC wVarA wIfS wTest wB wBl wNot wNil wCons wTup wCall wCB wRet wDrop wNext wOr wComp wRng1 wSl wNoPart wPart wFor wIList wLst wI0 wUn wU wAnd wAndV wNotV wPowA wGoA".splitOn " ").foldrM (fun r t=>do
  let b ← `(tactic| with_reducible refine $(Lean.mkIdent (Lean.Name.mkStr `SW r)) $(if r == "wSeqC" || r == "wCut" then l else h))
  if r == "wIxLA" then `(tactic| first | (with_reducible show rIxL _ (V.ref _) (V.int _) _ _;$b:tactic) | $t:tactic)else if r == "wIxTA" then `(tactic| first | (with_reducible show rIxT _ (V.ref _) (V.int _) _ _;$b:tactic) | $t:tactic)else if r == "wSetLA" then `(tactic| first | (with_reducible show rSetL (V.ref _) (V.int _) _ _ _;$b:tactic) | $t:tactic)else `(tactic| first | $b:tactic | $t:tactic)) (← `(tactic| fail))
 `(tactic| repeat $t:tactic)
local macro_rules | `(tactic| walk_at "S")=>do
 let h ← `(?_)
 let l ← `(fun _ _=>?_)
 let t ← ("wEnumT wPairs wPairs0 wGoA".splitOn " ").foldrM (fun r t=>do
  let b ← `(tactic| with_reducible refine $(Lean.mkIdent (Lean.Name.mkStr `SW r)) $(if r == "wSeqC" || r == "wCut" then l else h))
  if r == "wIxLA" then `(tactic| first | (with_reducible show rIxL _ (V.ref _) (V.int _) _ _;$b:tactic) | $t:tactic)else if r == "wIxTA" then `(tactic| first | (with_reducible show rIxT _ (V.ref _) (V.int _) _ _;$b:tactic) | $t:tactic)else if r == "wSetLA" then `(tactic| first | (with_reducible show rSetL (V.ref _) (V.int _) _ _ _;$b:tactic) | $t:tactic)else `(tactic| first | $b:tactic | $t:tactic)) (← `(tactic| fail))
 return t
local macro_rules | `(tactic| walk_at "S")=>do
 let h ← `(?_)
 let l ← `(fun _ _=>?_)
 let t ← ("wNoPart wPart wITup wDIn wU wDGet wDNotIn wOrA".splitOn " ").foldrM (fun r t=>do
  let b ← `(tactic| with_reducible refine $(Lean.mkIdent (Lean.Name.mkStr `SW r)) $(if r == "wSeqC" || r == "wCut" then l else h))
  if r == "wIxLA" then `(tactic| first | (with_reducible show rIxL _ (V.ref _) (V.int _) _ _;$b:tactic) | $t:tactic)else if r == "wIxTA" then `(tactic| first | (with_reducible show rIxT _ (V.ref _) (V.int _) _ _;$b:tactic) | $t:tactic)else if r == "wSetLA" then `(tactic| first | (with_reducible show rSetL (V.ref _) (V.int _) _ _ _;$b:tactic) | $t:tactic)else `(tactic| first | $b:tactic | $t:tactic)) (← `(tactic| fail))
 return t
local macro_rules | `(tactic| walk_at "S")=>do
 let h ← `(?_)
 let l ← `(fun _ _=>?_)
 let t ← ("wMake wIf wDGet1 wItems wDPut wFAug wCompSet wSl".splitOn " ").foldrM (fun r t=>do
  let b ← `(tactic| with_reducible refine $(Lean.mkIdent (Lean.Name.mkStr `SW r)) $(if r == "wSeqC" || r == "wCut" then l else h))
  if r == "wIxLA" then `(tactic| first | (with_reducible show rIxL _ (V.ref _) (V.int _) _ _;$b:tactic) | $t:tactic)else if r == "wIxTA" then `(tactic| first | (with_reducible show rIxT _ (V.ref _) (V.int _) _ _;$b:tactic) | $t:tactic)else if r == "wSetLA" then `(tactic| first | (with_reducible show rSetL (V.ref _) (V.int _) _ _ _;$b:tactic) | $t:tactic)else `(tactic| first | $b:tactic | $t:tactic)) (← `(tactic| fail))
 return t
local macro_rules | `(tactic| walk_at "S")=>do
 let h ← `(?_)
 let l ← `(fun _ _=>?_)
 let t ← ("wOr wChain wComp wInt1 wUn wFld wSFld wMeth".splitOn " ").foldrM (fun r t=>do
  let b ← `(tactic| with_reducible refine $(Lean.mkIdent (Lean.Name.mkStr `SW r)) $(if r == "wSeqC" || r == "wCut" then l else h))
  if r == "wIxLA" then `(tactic| first | (with_reducible show rIxL _ (V.ref _) (V.int _) _ _;$b:tactic) | $t:tactic)else if r == "wIxTA" then `(tactic| first | (with_reducible show rIxT _ (V.ref _) (V.int _) _ _;$b:tactic) | $t:tactic)else if r == "wSetLA" then `(tactic| first | (with_reducible show rSetL (V.ref _) (V.int _) _ _ _;$b:tactic) | $t:tactic)else `(tactic| first | $b:tactic | $t:tactic)) (← `(tactic| fail))
 return t
local macro_rules | `(tactic| walk_at "S")=>do
 let h ← `(?_)
 let l ← `(fun _ _=>?_)
 let t ← ("wRet wRetN wDrop wNext wFor wIList wRng1 wAnd".splitOn " ").foldrM (fun r t=>do
  let b ← `(tactic| with_reducible refine $(Lean.mkIdent (Lean.Name.mkStr `SW r)) $(if r == "wSeqC" || r == "wCut" then l else h))
  if r == "wIxLA" then `(tactic| first | (with_reducible show rIxL _ (V.ref _) (V.int _) _ _;$b:tactic) | $t:tactic)else if r == "wIxTA" then `(tactic| first | (with_reducible show rIxT _ (V.ref _) (V.int _) _ _;$b:tactic) | $t:tactic)else if r == "wSetLA" then `(tactic| first | (with_reducible show rSetL (V.ref _) (V.int _) _ _ _;$b:tactic) | $t:tactic)else `(tactic| first | $b:tactic | $t:tactic)) (← `(tactic| fail))
 return t
local macro_rules | `(tactic| walk_at "S")=>do
 let h ← `(?_)
 let l ← `(fun _ _=>?_)
 let t ← ("wSub wSetLA wNil wCons wLst wTup wCall wCB".splitOn " ").foldrM (fun r t=>do
  let b ← `(tactic| with_reducible refine $(Lean.mkIdent (Lean.Name.mkStr `SW r)) $(if r == "wSeqC" || r == "wCut" then l else h))
  if r == "wIxLA" then `(tactic| first | (with_reducible show rIxL _ (V.ref _) (V.int _) _ _;$b:tactic) | $t:tactic)else if r == "wIxTA" then `(tactic| first | (with_reducible show rIxT _ (V.ref _) (V.int _) _ _;$b:tactic) | $t:tactic)else if r == "wSetLA" then `(tactic| first | (with_reducible show rSetL (V.ref _) (V.int _) _ _ _;$b:tactic) | $t:tactic)else `(tactic| first | $b:tactic | $t:tactic)) (← `(tactic| fail))
 return t
local macro_rules | `(tactic| walk_at "S")=>do
 let h ← `(?_)
 let l ← `(fun _ _=>?_)
 let t ← ("wB wNot wNotV wAndV wOrV wBl wIxLA wIxTA".splitOn " ").foldrM (fun r t=>do
  let b ← `(tactic| with_reducible refine $(Lean.mkIdent (Lean.Name.mkStr `SW r)) $(if r == "wSeqC" || r == "wCut" then l else h))
  if r == "wIxLA" then `(tactic| first | (with_reducible show rIxL _ (V.ref _) (V.int _) _ _;$b:tactic) | $t:tactic)else if r == "wIxTA" then `(tactic| first | (with_reducible show rIxT _ (V.ref _) (V.int _) _ _;$b:tactic) | $t:tactic)else if r == "wSetLA" then `(tactic| first | (with_reducible show rSetL (V.ref _) (V.int _) _ _ _;$b:tactic) | $t:tactic)else `(tactic| first | $b:tactic | $t:tactic)) (← `(tactic| fail))
 return t
local macro_rules | `(tactic| walk_at "S")=>do
 let h ← `(?_)
 let l ← `(fun _ _=>?_)
 let t ← ("wModA wDivLA wMulA wPowA wEqI wNeI wIfS wTest".splitOn " ").foldrM (fun r t=>do
  let b ← `(tactic| with_reducible refine $(Lean.mkIdent (Lean.Name.mkStr `SW r)) $(if r == "wSeqC" || r == "wCut" then l else h))
  if r == "wIxLA" then `(tactic| first | (with_reducible show rIxL _ (V.ref _) (V.int _) _ _;$b:tactic) | $t:tactic)else if r == "wIxTA" then `(tactic| first | (with_reducible show rIxT _ (V.ref _) (V.int _) _ _;$b:tactic) | $t:tactic)else if r == "wSetLA" then `(tactic| first | (with_reducible show rSetL (V.ref _) (V.int _) _ _ _;$b:tactic) | $t:tactic)else `(tactic| first | $b:tactic | $t:tactic)) (← `(tactic| fail))
 return t
local macro_rules | `(tactic| walk_at "S")=>do
 let h ← `(?_)
 let l ← `(fun _ _=>?_)
 let t ← ("wSeqC wCut wAsg wName wOp wC wVarA wI0".splitOn " ").foldrM (fun r t=>do
  let b ← `(tactic| with_reducible refine $(Lean.mkIdent (Lean.Name.mkStr `SW r)) $(if r == "wSeqC" || r == "wCut" then l else h))
  if r == "wIxLA" then `(tactic| first | (with_reducible show rIxL _ (V.ref _) (V.int _) _ _;$b:tactic) | $t:tactic)else if r == "wIxTA" then `(tactic| first | (with_reducible show rIxT _ (V.ref _) (V.int _) _ _;$b:tactic) | $t:tactic)else if r == "wSetLA" then `(tactic| first | (with_reducible show rSetL (V.ref _) (V.int _) _ _ _;$b:tactic) | $t:tactic)else `(tactic| first | $b:tactic | $t:tactic)) (← `(tactic| fail))
 return t
local macro_rules | `(tactic| walk_at "W")=>`(tactic| repeat walk_at "S")
def top(i:Nat):Stmt:=PySem.Challenge.pw_slowshift_k42_whole_states_of_any_sort_s.main.body.getD i (.Pass ⟨0,0,0,0⟩)
abbrev z58_:Stmt:=(top 0)
theorem z117_:FnScope ["k"] ["k"] (defScope z58_):=SW.fs
abbrev z39_:Stmt:=(top 9)
theorem z98_:FnScope ["thing"] ["thing"] (defScope z39_):=SW.fs
abbrev z36_:Stmt:=(top 10)
theorem z95_:FnScope ["thing"] ["thing"] (defScope z36_):=SW.fs
abbrev z33_:Stmt:=(top 11)
theorem z92_:FnScope ["thing"] ["thing"] (defScope z33_):=SW.fs
abbrev z40_:Stmt:=(top 12)
theorem z99_:FnScope ["thing"] ["thing"] (defScope z40_):=SW.fs
abbrev z53_:Stmt:=(top 15)
theorem z112_:FnScope ["key","mixer"] ["key","mixer"] (defScope z53_):=SW.fs
abbrev z54_:Stmt:=(top 16)
theorem z113_:FnScope ["mark","size"] ["mark","size"] (defScope z54_):=SW.fs
abbrev z0_:Stmt:=(inClass (top 18) 0)
theorem z59_:FnScope ["self","size","mixer"] ["self","size","mixer"] (defScope z0_):=SW.fs
abbrev z7_:Stmt:=(inClass (top 18) 1)
theorem z66_:FnScope ["self","key","worth","row","before"] ["self","key","worth"] (defScope z7_):=SW.fs
abbrev z2_:Stmt:=(inClass (top 18) 2)
theorem z61_:FnScope ["self","key"] ["self","key"] (defScope z2_):=SW.fs
abbrev z4_:Stmt:=(inClass (top 18) 3)
theorem z63_:FnScope ["self","key"] ["self","key"] (defScope z4_):=SW.fs
abbrev z8_:Stmt:=(inClass (top 18) 4)
theorem z67_:FnScope ["self","place"] ["self","place"] (defScope z8_):=SW.fs
abbrev z3_:Stmt:=(inClass (top 18) 5)
theorem z62_:FnScope ["self","place","told"] ["self","place"] (defScope z3_):=SW.fs
abbrev z10_:Stmt:=(inClass (top 18) 6)
theorem z69_:FnScope ["self"] ["self"] (defScope z10_):=SW.fs
abbrev z5_:Stmt:=(inClass (top 18) 7)
theorem z64_:FnScope ["self"] ["self"] (defScope z5_):=SW.fs
abbrev z6_:Stmt:=(inClass (top 18) 8)
theorem z65_:FnScope ["self","key"] ["self","key"] (defScope z6_):=SW.fs
abbrev z9_:Stmt:=(inClass (top 18) 9)
theorem z68_:FnScope ["self","key"] ["self","key"] (defScope z9_):=SW.fs
abbrev z1_:Stmt:=(inClass (top 18) 10)
theorem z60_:FnScope ["self","place"] ["self","place"] (defScope z1_):=SW.fs
abbrev z11_:Stmt:=(inClass (top 21) 0)
theorem z70_:FnScope ["self","mixer","pace","state","laid"] ["self","mixer","pace","state"] (defScope z11_):=SW.fs
abbrev z20_:Stmt:=(inClass (top 21) 1)
theorem z79_:FnScope ["self","key","worth","told"] ["self","key","worth"] (defScope z20_):=SW.fs
abbrev z13_:Stmt:=(inClass (top 21) 2)
theorem z72_:FnScope ["self","key"] ["self","key"] (defScope z13_):=SW.fs
abbrev z17_:Stmt:=(inClass (top 21) 3)
theorem z76_:FnScope ["self","key","told"] ["self","key"] (defScope z17_):=SW.fs
abbrev z25_:Stmt:=(inClass (top 21) 4)
theorem z84_:FnScope ["self","elder"] ["self"] (defScope z25_):=SW.fs
abbrev z18_:Stmt:=(inClass (top 21) 5)
theorem z77_:FnScope ["self"] ["self"] (defScope z18_):=SW.fs
abbrev z26_:Stmt:=(inClass (top 21) 6)
theorem z85_:FnScope ["self"] ["self"] (defScope z26_):=SW.fs
abbrev z23_:Stmt:=(inClass (top 21) 7)
theorem z82_:FnScope ["self"] ["self"] (defScope z23_):=SW.fs
abbrev z22_:Stmt:=(inClass (top 21) 8)
theorem z81_:FnScope ["self"] ["self"] (defScope z22_):=SW.fs
abbrev z16_:Stmt:=(inClass (top 21) 9)
theorem z75_:FnScope ["self","key","due","reached","place","asked_elder"] ["self","key"] (defScope z16_):=SW.fs
abbrev z14_:Stmt:=(inClass (top 21) 10)
theorem z73_:FnScope ["self"] ["self"] (defScope z14_):=SW.fs
abbrev z19_:Stmt:=(inClass (top 21) 11)
theorem z78_:FnScope ["self","place","pairs","key","worth"] ["self","place"] (defScope z19_):=SW.fs
abbrev z15_:Stmt:=(inClass (top 21) 12)
theorem z74_:FnScope ["self"] ["self"] (defScope z15_):=SW.fs
abbrev z24_:Stmt:=(inClass (top 21) 13)
theorem z83_:FnScope ["self","key"] ["self","key"] (defScope z24_):=SW.fs
abbrev z21_:Stmt:=(inClass (top 21) 14)
theorem z80_:FnScope ["self","key"] ["self","key"] (defScope z21_):=SW.fs
abbrev z12_:Stmt:=(inClass (top 21) 15)
theorem z71_:FnScope ["self","size"] ["self"] (defScope z12_):=SW.fs
abbrev z27_:Stmt:=(inClass (top 21) 16)
theorem z86_:FnScope ["self","size"] ["self"] (defScope z27_):=SW.fs
abbrev z56_:Stmt:=(top 22)
theorem z115_:FnScope ["rows","mixer","shelf","row","key","worth"] ["rows","mixer"] (defScope z56_):=SW.fs
abbrev z55_:Stmt:=(top 23)
theorem z114_:FnScope ["shelf"] ["shelf"] (defScope z55_):=SW.fs
abbrev z29_:Stmt:=(top 25)
theorem z88_:FnScope ["state","mixer"] ["state","mixer"] (defScope z29_):=SW.fs
abbrev z32_:Stmt:=(top 26)
theorem z91_:FnScope ["elder","newer"] ["elder","newer"] (defScope z32_):=SW.fs
abbrev z31_:Stmt:=(top 27)
theorem z90_:FnScope ["elder","moved"] ["elder","moved"] (defScope z31_):=SW.fs
abbrev z30_:Stmt:=(top 28)
theorem z89_:FnScope ["state","mixer","sizes","moved","had","shelf","place","key"] ["state","mixer"] (defScope z30_):=SW.fs
abbrev z41_:Stmt:=(top 29)
theorem z100_:FnScope ["state","told","shelf","rows","place","row"] ["state"] (defScope z41_):=SW.fs
abbrev z37_:Stmt:=(top 30)
theorem z96_:FnScope ["state","mixer"] ["state","mixer"] (defScope z37_):=SW.fs
abbrev z38_:Stmt:=(top 31)
theorem z97_:FnScope ["thing"] ["thing"] (defScope z38_):=SW.fs
abbrev z28_:Stmt:=(top 32)
theorem z87_:FnScope ["thing"] ["thing"] (defScope z28_):=SW.fs
abbrev z35_:Stmt:=(top 33)
theorem z94_:FnScope ["thing"] ["thing"] (defScope z35_):=SW.fs
abbrev z34_:Stmt:=(top 34)
theorem z93_:FnScope ["thing"] ["thing"] (defScope z34_):=SW.fs
abbrev z57_:Stmt:=(top 35)
theorem z116_:FnScope ["state","mixer","pace"] ["state","mixer","pace"] (defScope z57_):=SW.fs
abbrev z49_:Stmt:=(top 37)
theorem z108_:FnScope ["cell","low"] ["cell"] (defScope z49_):=SW.fs
abbrev z51_:Stmt:=(top 38)
theorem z110_:FnScope ["row","many","got"] ["row","many"] (defScope z51_):=SW.fs
abbrev z44_:Stmt:=(top 39)
theorem z103_:FnScope ["row","some"] ["row"] (defScope z44_):=SW.fs
abbrev z43_:Stmt:=(top 40)
theorem z102_:FnScope ["row","some"] ["row"] (defScope z43_):=SW.fs
abbrev z52_:Stmt:=(top 41)
theorem z111_:FnScope ["row"] ["row"] (defScope z52_):=SW.fs
abbrev z45_:Stmt:=(top 42)
theorem z104_:FnScope ["row","keys"] ["row","keys"] (defScope z45_):=SW.fs
abbrev z50_:Stmt:=(top 43)
theorem z109_:FnScope ["row","mixer","size","other","moved","rows","seen","k","key","mark","at","shelves"] ["row","mixer"] (defScope z50_):=SW.fs
abbrev z46_:Stmt:=(top 44)
theorem z105_:FnScope ["state","found","rows","one"] ["state"] (defScope z46_):=SW.fs
abbrev z48_:Stmt:=(top 45)
theorem z107_:FnScope ["state","many","places"] ["state","many"] (defScope z48_):=SW.fs
abbrev z47_:Stmt:=(top 46)
theorem z106_:FnScope ["row","state","mixer","pace","table","pairs","worths","k","key","last"] ["row","state","mixer","pace"] (defScope z47_):=SW.fs
abbrev z42_:Stmt:=(top 47)
theorem z101_:FnScope ["script","cell","row","mixer"] ["script"] (defScope z42_):=SW.fs
structure Gs(K:W.Frag)(mg:Str->Option Value)(C CT:Addr):Prop where
 c_MARKS:∃ t,mg "MARKS"=some (.int 65536 t)
 c_GREATEST:∃ t,mg "GREATEST"=some (.int 1000000000 t)
 c_SIZES:∃ a,mg "SIZES"=some (.ref a) /\ ∀ H,SqT K H a [.int 4,.int 8,.int 16,.int 32,.int 64,.int 128,.int 256,.int 512,.int 1024,.int 2048,.int 4096]
 c_EMPTY:∃ a b,mg "EMPTY"=some (.ref a)/\(∀ H,SqT K H a [.non,.int 0,.ref b]) /\ ∀ H,RowsT K H b [[],[],[],[]]
 cl_Shelf:Cls K C
 n_Shelf_mixer:NoAttr K C "mixer"
 n_Shelf_rows:NoAttr K C "rows"
 n_Shelf_held:NoAttr K C "held"
 cl_Table:Cls K CT
 n_Table_mixer:NoAttr K CT "mixer"
 n_Table_pace:NoAttr K CT "pace"
 n_Table_elder:NoAttr K CT "elder"
 n_Table_moved:NoAttr K CT "moved"
 n_Table_newer:NoAttr K CT "newer"
 n_Table_touches:NoAttr K CT "touches"
 b_int:mg "int"=none
 b_bool:mg "bool"=none
 b_isinstance:mg "isinstance"=none
 b_range:mg "range"=none
 b_len:mg "len"=none
 b_list:mg "list"=none
 b_tuple:mg "tuple"=none
 b_sum:mg "sum"=none
 b_min:mg "min"=none
 b_max:mg "max"=none
 b_set:mg "set"=none
 b_enumerate:mg "enumerate"=none
 b_all:mg "all"=none
 b_dict:mg "dict"=none
 b_sorted:mg "sorted"=none
theorem hu1_of{A:Around}{k:Nat}(hr:Room k A):A.units < cLine:=Nat.lt_of_le_of_lt (Nat.le_add_right _ 1) (hu_of hr)
section
variable{P:Program}{w:World}{K:W.Frag}{mg:Str->Option Value}{base:Heap}{C CT:Addr}
theorem q27_(d:Dfn K mg "mark_of" z53_ ["key","mixer"])(g:Gs K mg C CT):Fn P w K mg base "mark_of" 1 ["key","mixer"] spMark:=by
 refine d.fn z112_ (fun vs H Q E h=>?_) (fun f cdv A outer s H vs Q E hr h=>?_)
 · obtain⟨k,t,f,m,rfl,_⟩:=h
   rfl
 obtain⟨k,t,f,m,rfl,ht,hf,q⟩:=h;refine⟨_,(B.sone (B.ret (B.op op_mod (B.op op_add (B.op op_mul (B.v 0) (B.ix ix_tup (B.v 1) B.int)) (B.ix ix_tup (B.v 1) B.int)) (B.gint g.c_MARKS)))),?_⟩;walk_at "W";exact q
theorem q34_(d:Dfn K mg "place_of" z54_ ["mark","size"]):Fn P w K mg base "place_of" 1 ["mark","size"] spPlace:=by
 refine d.fn z113_ (fun vs H Q E h=>?_) (fun f cdv A outer s H vs Q E hr h=>?_)
 · obtain⟨k,t,rfl,_⟩:=h
   rfl
 obtain⟨m,z,rfl,hz,q⟩:=h;refine⟨_,(B.sone (B.ret (B.op op_mod (B.v 0) (B.v 1)))),?_⟩;walk_at "W";exact q
theorem q47_(d:Dfn K mg "_law_stream" z49_ ["cell"])(g:Gs K mg C CT):Fn P w K mg base "_law_stream" 1 ["cell"] spStream:=by
 refine d.fn z108_ (fun vs H Q E h=>?_) (fun f cdv A outer s H vs Q E hr h=>?_)
 · obtain⟨c,rfl,_⟩:=h
   rfl
 obtain⟨c,rfl,k⟩:=h;refine⟨_,(B.scons (B.set 1 z108_.nd (B.op op_mod (B.v 0) B.int))
  (B.scons (B.set 1 z108_.nd (B.op op_mod (B.op op_add (B.op op_mul (B.op op_mod (B.op op_mul (B.v 1) (B.v 1)) B.int) (B.op op_add (B.v 1) B.int)) B.int) B.int))
  (B.sone (B.ret (B.lst (B.cons (B.v 0) (B.cons (B.v 1) (B.cons (B.cT call_int1 g.b_int SW.b_int (B.cons (B.cmp op_ge (B.v 0) (B.op op_pow B.int B.int)) B.nil)) B.nil)))))))),?_⟩
 walk_at "W";refine⟨by show(3:Nat)<=sizeLine;decide,fun p hp=>k p _ hp ⟨_,_,_,upd_same,?_,?_⟩⟩
 · exact Int.emod_nonneg _ (by decide)
 exact Int.emod_lt_of_pos _ (by decide)
theorem q51_(d:Dfn K mg "_law_take" z51_ ["row","many"]):Fn P w K mg base "_law_take" 1 ["row","many"] spTake:=by
 refine d.fn z110_ (fun vs H Q E h=>?_) (fun f cdv A outer s H vs Q E hr h=>?_)
 · obtain⟨p,m,rfl,_⟩:=h
   rfl
 obtain⟨p,m,rfl,hm0,hm1,⟨a,b,c,hp,hb0,hb1⟩,k⟩:=h;refine⟨_,(B.scons (B.ifs (B.tcmp op_eq (B.ix ix_list (B.v 0) B.int) B.int) (B.scons (B.set 2 z110_.nd (B.op op_mod (B.ix ix_list (B.v 0) B.int) (B.v 1)))
  (B.scons (B.asg (B.op op_fdivL (B.ix ix_list (B.v 0) B.int) (B.v 1)) (B.gsub (B.v 0) B.int set_list))
  (B.sone (B.ret (B.v 2))))) B.snil)
  (B.scons (B.asg (B.op op_mod (B.op op_mul (B.op op_add (B.ix ix_list (B.v 0) B.int) B.int) (B.op op_add (B.ix ix_list (B.v 0) B.int) B.int)) B.int) (B.gsub (B.v 0) B.int set_list))
  (B.sone (B.ret (B.op op_mod (B.op op_fdivL (B.op op_add (B.op op_mul (B.ix ix_list (B.v 0) B.int) B.int) B.int) B.int) (B.v 1)))))),?_⟩
 walk_at "W";refine ite2 (fun _=>?_) (fun _=>?_)
 · walk_at "W"
   exact k _ _ (Int.emod_nonneg _ (by omega)) (Int.emod_lt_of_pos _ hm0) ⟨_,_,_,upd_same,hb0,hb1⟩
 walk_at "W";exact k _ _ (Int.emod_nonneg _ (by omega)) (Int.emod_lt_of_pos _ hm0) ⟨_,_,_,upd_same,Int.emod_nonneg _ (by decide),Int.emod_lt_of_pos _ (by decide)⟩
theorem q14_(d:Dfn K mg "_law_key" z43_ ["row"])(q25_:Fn P w K mg base "_law_take" 1 ["row","many"] spTake):Fn P w K mg base "_law_key" 2 ["row"] spKey:=by
 refine d.fn z102_ (fun vs H Q E h=>?_) (fun f cdv A outer s H vs Q E hr h=>?_)
 · obtain⟨p,rfl,_⟩:=h
   rfl
 obtain⟨p,rfl,hp,k⟩:=h;refine⟨_,(B.scons (B.set 1 z102_.nd (B.lst (B.cons (B.fn q25_ hr.up (B.cons (B.v 0) (B.cons B.int B.nil))) (B.cons (B.fn q25_ hr.up (B.cons (B.v 0) (B.cons B.int B.nil))) (B.cons (B.op op_mul B.int (B.fn q25_ hr.up (B.cons (B.v 0) (B.cons B.int B.nil)))) (B.cons (B.fn q25_ hr.up (B.cons (B.v 0) (B.cons (B.op op_add (B.op op_pow B.int B.int) B.int) B.nil))) (B.cons (B.op op_pow B.int B.int) B.nil)))))))
  (B.sone (B.ret (B.ix ix_list (B.v 1) (B.fn q25_ hr.up (B.cons (B.v 0) (B.cons B.int B.nil))))))),?_⟩
 walk_at "W";refine wTake hp (by decide) (by decide) fun r1 H1 a1 b1 R1 K1=>?_
 walk_at "W";refine wTake R1 (by decide) (by decide) fun r2 H2 a2 b2 R2 K2=>?_
 walk_at "W";refine wTake R2 (by decide) (by decide) fun r3 H3 a3 b3 R3 K3=>?_
 walk_at "W";refine wTake R3 (by decide) (by decide) fun r4 H4 a4 b4 R4 K4=>?_
 have e9:(10:Int) ^ (Int.toNat 9)=1000000000:=by decide
 walk_at "W";refine⟨by show(5:Nat)<=sizeLine;decide,fun q hq=>?_⟩
 walk_at "W";refine wTake (R4.new hq) (by decide) (by decide) fun r5 H5 a5 b5 R5 K5=>?_
 have e5:=K5 q _ (R4.ne0 hq).symm upd_same;obtain⟨v,hv,hm⟩:=atI_in (xs:=[V.int r1,V.int r2,V.int (65536*r3),V.int r4,V.int (10 ^ 9)]) a5 b5;refine wIxL e5 hv ?_;obtain⟨z,rfl,z0,z1⟩:∃ z,v=V.int z/\0<=z/\z<=1000000000:=by
  simp only[List.mem_cons,List.not_mem_nil,or_false]at hm;rcases hm with rfl | rfl | rfl | rfl | rfl
  · exact⟨_,rfl,by omega,by omega⟩
  · exact⟨_,rfl,by omega,by omega⟩
  · exact⟨_,rfl,by omega,by omega⟩
  · exact⟨_,rfl,by omega,by omega⟩
  exact⟨_,rfl,by decide,by decide⟩
 exact k z H5 z0 z1 R5 (((K1.trans K2).trans (K3.trans K4)).trans ((KeepBut.new hq).trans K5))
theorem q29_(d:Dfn K mg "_law_mixer" z44_ ["row"])(q25_:Fn P w K mg base "_law_take" 1 ["row","many"] spTake):Fn P w K mg base "_law_mixer" 2 ["row"] spMixer:=by
 refine d.fn z103_ (fun vs H Q E h=>?_) (fun f cdv A outer s H vs Q E hr h=>?_)
 · obtain⟨p,rfl,_⟩:=h
   rfl
 obtain⟨p,rfl,hp,k⟩:=h;refine⟨_,(B.scons (B.set 1 z103_.nd (B.lst (B.cons (B.tup (B.cons B.int (B.cons B.int B.nil))) (B.cons (B.tup (B.cons B.int (B.cons B.int B.nil))) (B.cons (B.tup (B.cons B.int (B.cons B.int B.nil))) (B.cons (B.tup (B.cons B.int (B.cons B.int B.nil))) (B.cons (B.tup (B.cons B.int (B.cons B.int B.nil))) (B.cons (B.tup (B.cons B.int (B.cons B.int B.nil))) (B.cons (B.tup (B.cons B.int (B.cons B.int B.nil))) (B.cons (B.tup (B.cons B.int (B.cons B.int B.nil))) B.nil))))))))))
  (B.scons (B.expr (B.m PySem.F.plainAttrs_list PySem.F.slot_list_append PySem.F.type_list_append mt_append (B.v 1) (B.cons (B.tup (B.cons (B.fn q25_ hr.up (B.cons (B.v 0) (B.cons B.int B.nil))) (B.cons (B.fn q25_ hr.up (B.cons (B.v 0) (B.cons B.int B.nil))) B.nil))) B.nil)))
  (B.sone (B.ret (B.ix ix_list (B.v 1) (B.fn q25_ hr.up (B.cons (B.v 0) (B.cons B.int B.nil)))))))),?_⟩
 have two:(2:Nat)<=sizeLine:=by decide
 walk_at "W";refine⟨two,fun t1 h1=>?_⟩;have M1:=(Mixs.nil).new t1 1 0 h1 (by decide)
 have R1:=hp.new (o:=.tup [.int 1,.int 0]) h1;have S1:=(Same.new (o:=.tup [.int 1,.int 0]) h1);walk_at "W";refine⟨two,fun t2 h2=>?_⟩;have M2:=(M1).new t2 0 0 h2 (by decide)
 have R2:=R1.new (o:=.tup [.int 0,.int 0]) h2;have S2:=S1.trans (Same.new (o:=.tup [.int 0,.int 0]) h2);walk_at "W";refine⟨two,fun t3 h3=>?_⟩;have M3:=(M2).new t3 0 65535 h3 (by decide)
 have R3:=R2.new (o:=.tup [.int 0,.int 65535]) h3;have S3:=S2.trans (Same.new (o:=.tup [.int 0,.int 65535]) h3);walk_at "W";refine⟨two,fun t4 h4=>?_⟩;have M4:=(M3).new t4 40503 7 h4 (by decide)
 have R4:=R3.new (o:=.tup [.int 40503,.int 7]) h4;have S4:=S3.trans (Same.new (o:=.tup [.int 40503,.int 7]) h4);walk_at "W";refine⟨two,fun t5 h5=>?_⟩;have M5:=(M4).new t5 65535 1 h5 (by decide)
 have R5:=R4.new (o:=.tup [.int 65535,.int 1]) h5;have S5:=S4.trans (Same.new (o:=.tup [.int 65535,.int 1]) h5);walk_at "W";refine⟨two,fun t6 h6=>?_⟩;have M6:=(M5).new t6 2 0 h6 (by decide)
 have R6:=R5.new (o:=.tup [.int 2,.int 0]) h6;have S6:=S5.trans (Same.new (o:=.tup [.int 2,.int 0]) h6);walk_at "W";refine⟨two,fun t7 h7=>?_⟩;have M7:=(M6).new t7 4096 3 h7 (by decide)
 have R7:=R6.new (o:=.tup [.int 4096,.int 3]) h7;have S7:=S6.trans (Same.new (o:=.tup [.int 4096,.int 3]) h7);walk_at "W";refine⟨two,fun t8 h8=>?_⟩;have M8:=(M7).new t8 32768 65535 h8 (by decide)
 have R8:=R7.new (o:=.tup [.int 32768,.int 65535]) h8;have S8:=S7.trans (Same.new (o:=.tup [.int 32768,.int 65535]) h8);walk_at "W";refine⟨by show(8:Nat)<=sizeLine;decide,fun q hq=>?_⟩
 have q0:H q=none:=S8.free hq;have nqp:q≠p:=(R8.ne0 hq).symm;have M9:=M8.map fun _ z=>z.same (Same.new (o:=.lst [.ref t1,.ref t2,.ref t3,.ref t4,.ref t5,.ref t6,.ref t7,.ref t8]) hq);have R9:=R8.new (o:=.lst [.ref t1,.ref t2,.ref t3,.ref t4,.ref t5,.ref t6,.ref t7,.ref t8]) hq;have K9:KeepBut p H _:=SW.Same.but (S8.trans (Same.new (o:=.lst [.ref t1,.ref t2,.ref t3,.ref t4,.ref t5,.ref t6,.ref t7,.ref t8]) hq));walk_at "W";refine wBM ?_;walk_at "W";refine⟨.inl ⟨rfl,_,SqL.of upd_same⟩,?_⟩;walk_at "W";refine wTake R9 (by decide) (by decide) fun r1 H10 a1 b1 R10 K10=>?_
 have q10:=K10 q _ nqp upd_same;have M10:=M9.map fun _ z=>z.keep R9 K10;walk_at "W";refine wTake R10 (by decide) (by decide) fun r2 H11 a2 b2 R11 K11=>?_
 have q11:=K11 q _ nqp q10;have M11:=M10.map fun _ z=>z.keep R10 K11;walk_at "W";refine⟨two,fun t9 h9=>?_⟩;have M12:=M11.new t9 r1 r2 h9 (by omega)
 have q12:=Same.new (o:=.tup [.int r1,.int r2]) h9 _ _ q11;walk_at "W";refine⟨q,_,_,rfl,rfl,q12,by show(8:Nat) < sizeLine;decide,?_⟩
 have M13:=M12.map fun _ z=>z.upd (o:=.lst ([.ref t1,.ref t2,.ref t3,.ref t4,.ref t5,.ref t6,.ref t7,.ref t8]++[.ref t9])) q12;have R13:=(R11.new (o:=.tup [.int r1,.int r2]) h9).upd (o:=.lst ([.ref t1,.ref t2,.ref t3,.ref t4,.ref t5,.ref t6,.ref t7,.ref t8]++[.ref t9])) nqp.symm;have K13:=(((K9.trans K10).trans K11).trans (KeepBut.new (o:=.tup [.int r1,.int r2]) h9)).upd (o:=.lst ([.ref t1,.ref t2,.ref t3,.ref t4,.ref t5,.ref t6,.ref t7,.ref t8]++[.ref t9])) q0;walk_at "W";refine wTake R13 (by decide) (by decide) fun r H14 a b R14 K14=>?_
 have q14:=K14 q _ nqp upd_same;obtain⟨v,hv,hm⟩:=atI_in (xs:=[V.ref t1,V.ref t2,V.ref t3,V.ref t4,V.ref t5,V.ref t6,V.ref t7,V.ref t8]++[V.ref t9]) a b;refine wIxL q14 hv ?_;obtain⟨t,rfl,m⟩:=M13 v hm;exact k t H14 (m.keep R13 K14) R14 (K13.trans K14)
theorem q80_(d:Dk K mg C "Shelf" "Shelf.__init__" z0_ ["self","size","mixer"])(g:Gs K mg C CT)(q9_:Fn P w K mg base "is_size" 2 ["thing"] spIsSize):Mkr P w K mg base C "Shelf" 3 ["self","size","mixer"] (spSInit C):=by
 refine d.mk' z59_ (fun vs H Q E h=>?_) (fun f cdv A outer s H vs Q E hr h=>?_)
 · obtain⟨x,t,dx,n,f,m,rfl,_⟩:=h
   rfl
 obtain⟨x,t,dx,n,f,m,rfl,hx,ht,bf,hn,q⟩:=h;have bn:=hn.bounds;refine⟨_,(B.scons (B.ifs (B.tnot (B.tval (B.fn q9_ hr.up (B.cons (B.v 1) B.nil)))) (B.sone B.never) B.snil)
  (B.scons (B.sfld (B.v 0) (B.v 2))
  (B.scons (B.sfld (B.v 0) (SW.B.comp [] ["place"] (SW.CompScope.of rfl rfl (by decide +kernel) (by decide +kernel) rfl trivial rfl rfl rfl) (by decide +kernel) (B.irange g.b_range (B.cons (B.v 1) B.nil)) (fun _ _ _ _=>B.dnew)))
  (B.sone (B.sfld (B.v 0) B.int))))),?_⟩
 walk_at "W";refine⟨n,rfl,hn,?_⟩;walk_at "W";refine iteF ?_;walk_at "W";refine SW.iSFld hx g.cl_Shelf g.n_Shelf_mixer (by show 0 < 1000;decide) ?_
 walk_at "W";refine⟨n,rfl,by omega,by omega,fun D hD=>?_⟩
 have nxt:x≠t:=ne_of hx ht (by intro z;cases z)
 have hD0:H D=none:=by
  by_cases e:D=x
  · subst e;rw[upd_same]at hD;cases hD
  rw[upd_ne e]at hD;exact hD
 have nxD:x≠D:=ne_of_none hx hD0;refine comp_rangeU (fun i σ' H'=>∃(ds:List Addr) (v:Option V),σ'=[v]/\ds.length=i/\H' D=some (.lst (ds.map V.ref))/\ds.Nodup/\(∀ y∈ds,H' y=some (.dK [])/\H y=none/\y≠D)/\H' x=some (.ins C dx (putF "mixer" (.ref t) [])) /\ ∀ b o,b≠x->H b=some o->H' b=some o)
  ?_ ?_ ?_
 · exact⟨[],none,rfl,rfl,upd_same,List.nodup_nil,fun y hy=>(List.not_mem_nil hy).elim,by rw[upd_ne nxD,upd_same],fun b o nb e=>by rw[upd_ne (ne_of_none e hD0),upd_ne nb];exact e⟩
 · rintro i σ' H' hi ⟨ds,v,rfl,hl,h1,nd,h2,h3,h4⟩
   intro y hy;have nyD:D≠y:=ne_of_none h1 hy;have nin:y∉ds:=fun z=>by
    have:=(h2 y z).1;rw[hy]at this;cases this
   have hy0:H y=none:=by
    by_cases e:y=x
    · subst e;rw[h3]at hy;cases hy
    cases e2:H y with
    | none=>rfl
    | some o=>rw[h4 y o e e2]at hy;cases hy
   refine CN.mk hi (ys:=ds.map V.ref) (by rw[upd_ne nyD];exact h1) (by rw[List.length_map];exact Nat.lt_of_le_of_lt (show ds.length<=4096 by omega) (by decide)) ⟨ds++[y],_,rfl,by rw[List.length_append,hl];rfl,?_,nd_snoc nd nin,?_,?_,?_⟩
   · rw[upd_same,List.map_append];rfl
   · intro z hz
     rcases List.mem_append.mp hz with hz | hz
     · obtain⟨a1,a2,a3⟩:=h2 z hz
       refine⟨?_,a2,a3⟩;rw[upd_ne a3,upd_ne (fun e:z=y=>nin (e ▸ hz))];exact a1
     rw[List.mem_singleton.mp hz];exact⟨by rw[upd_ne nyD.symm,upd_same],hy0,nyD.symm⟩
   · rw[upd_ne nxD,upd_ne (ne_of_none h3 hy)];exact h3
   intro b o nb e;rw[upd_ne (ne_of_none e hD0),upd_ne (ne_of_none (h4 b o nb e) hy)];exact h4 b o nb e
 rintro σ' H' ⟨ds,v,rfl,hl,h1,nd,h2,h3,h4⟩;walk_at "W";refine SW.iSFld h3 g.cl_Shelf g.n_Shelf_rows (by show 1 < 1000;decide) ?_
 walk_at "W";refine⟨x,C,dx,_,rfl,upd_same,g.cl_Shelf,g.n_Shelf_held,?_,?_⟩
 · have e1:=putF_len "rows" (V.ref D) (putF "mixer" (V.ref t) [])
   have e2:=putF_len "mixer" (V.ref t) [];have e3:([]:List (Str×V)).length=0:=rfl;omega
 have up:∀ b o o1 o2,b≠x->H' b=some o->upd (upd H' x o1) x o2 b=some o:=fun b o o1 o2 nb e=>by rw[upd_ne nb,upd_ne nb];exact e
 refine q _ (fun b=>b=x∨b=D∨b∈ds) ⟨t,D,ds,⟨⟨dx,?_⟩,up _ _ _ _ nxt.symm (h4 _ _ nxt.symm ht),bf,up _ _ _ _ nxD.symm h1,by rw[hl,List.length_replicate];rfl,nd,?_,?_,?_,?_⟩,fun b=>Iff.rfl⟩ ?_ ?_
 · rw[upd_same,sfl_mk,tot_rep];rfl
 · intro i y r e1 e2
   have hm:=List.mem_of_getElem? e1;have er:r=[]:=List.eq_of_mem_replicate (List.mem_of_getElem? e2);subst er;obtain⟨a1,a2,a3⟩:=h2 y hm;exact up _ _ _ _ (fun e=>by rw[e,hx]at a2;cases a2) a1
 · intro r hr
   rw[List.eq_of_mem_replicate hr];exact List.nodup_nil
 · rw[List.length_replicate];omega
 · rw[List.length_replicate];omega
 · intro b hb
   rcases hb with rfl | rfl | hb
   · exact .inl rfl
   · exact .inr hD0
   exact .inr (h2 b hb).2.1
 intro b o nb e;exact up _ _ _ _ nb (h4 b o nb e)
theorem q84_(d:Dm K C "place_with" "Shelf.place_with" z6_ ["self","key"])(g:Gs K mg C CT)(q28_:Fn P w K mg base "mark_of" 1 ["key","mixer"] spMark)(q35_:Fn P w K mg base "place_of" 1 ["mark","size"] spPlace):Mt P w K mg base C "place_with" 2 ["self","key"] (spSPlace C):=by
 refine d.mt z65_ (fun vs H Q E h=>?_) (fun f cdv A outer s H vs Q E hr h=>?_)
 · obtain⟨p,k,f,m,R,F,rfl,_⟩:=h
   rfl
 obtain⟨p,k,f,m,R,F,rfl,⟨t,L,ds,X,hF⟩,q⟩:=h;obtain⟨dx,hp⟩:=X.ob;have hb:=X.pos;refine⟨_,(B.sone (B.ret (B.fn q35_ hr.up (B.cons (B.fn q28_ hr.up (B.cons (B.v 1) (B.cons (B.fld (B.v 0)) B.nil))) (B.cons (B.cB call_len_seq g.b_len SW.b_len (B.cons (B.fld (B.v 0)) B.nil)) B.nil))))),?_⟩;walk_at "W";refine SW.iFld hp g.cl_Shelf g.n_Shelf_mixer (sfl_mixer _ _ _) ?_;walk_at "W";refine wMark X.mx X.bm ?_;walk_at "W";refine SW.iFld hp g.cl_Shelf g.n_Shelf_rows (sfl_rows _ _ _) ?_;walk_at "W";refine SW.iLen (.inl (SqL.of X.rw)) ?_;walk_at "W";rw[List.length_map,X.len];refine wPlace (by omega) ?_
 rw[← plc_int hb];exact q
theorem q87_(d:Dm K C "row_with" "Shelf.row_with" z9_ ["self","key"])(g:Gs K mg C CT)(q61_:Mt P w K mg base C "place_with" 2 ["self","key"] (spSPlace C)):Mt P w K mg base C "row_with" 3 ["self","key"] (spSRowW C):=by
 refine d.mt z68_ (fun vs H Q E h=>?_) (fun f cdv A outer s H vs Q E hr h=>?_)
 · obtain⟨p,k,f,m,R,t,L,ds,rfl,_⟩:=h
   rfl
 obtain⟨p,k,f,m,R,t,L,ds,rfl,X,q⟩:=h;obtain⟨dx,hp⟩:=X.ob;have hb:=X.pos;have S:Sh C H p f m R (fun b=>b=p∨b=L∨b∈ds):=⟨t,L,ds,X,fun b=>Iff.rfl⟩;obtain⟨y,hy,_⟩:=X.place k;refine⟨_,(B.sone (B.ret (B.ix ix_list (B.fld (B.v 0)) (B.meth (B.v 0) g.cl_Shelf q61_ hr.up (B.cons (B.v 1) B.nil))))),?_⟩;walk_at "W";refine SW.iFld hp g.cl_Shelf g.n_Shelf_rows (sfl_rows _ _ _) ?_;walk_at "W";refine wS S ⟨by decide +kernel,by decide +kernel,by decide +kernel⟩ ?_
 walk_at "W";refine wSPlace S ?_;refine wIxL X.rw (v:=.ref y) ?_ (q y hy);refine atI_nat ?_;rw[List.getElem?_map,hy]
 rfl
theorem q85_(d:Dm K C "put" "Shelf.put" z7_ ["self","key","worth"])(g:Gs K mg C CT)(q64_:Mt P w K mg base C "row_with" 3 ["self","key"] (spSRowW C)):Mt P w K mg base C "put" 4 ["self","key","worth"] (spSPut C):=by
 refine d.mt z66_ (fun vs H Q E h=>?_) (fun f cdv A outer s H vs Q E hr h=>?_)
 · obtain⟨p,k,v,f,m,R,F,rfl,_⟩:=h
   rfl
 obtain⟨p,k,v,f,m,R,F,rfl,S,hl,q⟩:=h;obtain⟨t,L,ds,X,hF⟩:=id S;obtain⟨dx,hp⟩:=X.ob;obtain⟨y,hy,hr0⟩:=X.place k;have npy:p≠y:=ne_of hp hr0 (by intro z;cases z)
 have Fp:F p:=(hF p).mpr (.inl rfl);have Fy:F y:=(hF y).mpr (.inr (.inr (List.mem_of_getElem? hy)));have hlen:(kvs (sRow f m R k)).length < sizeLine:=by
  rw[kvs_len];exact Nat.lt_of_le_of_lt (Nat.le_trans (len_le_tot R _) hl) (by decide)
 have hok:ROk (rPut (sRow f m R k) k v):=rPut_ok (X.ok _ (List.mem_of_getElem? (getD_get (plc_lt X.pos))));have ht:=sPut_tot (f:=f) (m:=m) (k:=k) (v:=v) X.pos;refine⟨_,(B.scons (B.set 3 z66_.nd (B.meth (B.v 0) g.cl_Shelf q64_ hr.up (B.cons (B.v 1) B.nil)))
  (B.scons (B.set 4 z66_.nd (B.dget1 (hu_of hr) (B.v 3) (B.v 1) (m:=B.m1)))
  (B.scons (B.ifs (B.tcmp op_isN (B.v 4) B.non) (B.sone (B.faug in_add (B.v 0) B.int)) B.snil)
  (B.scons (B.dput (hu_of hr) (B.v 3) (B.v 1) (B.v 2))
  (B.sone (B.ret (B.v 4))))))),?_⟩
 walk_at "W";refine wS S ⟨by decide +kernel,by decide +kernel,by decide +kernel⟩ ?_
 walk_at "W";refine SW.wSRowW X fun y' hy'=>?_;obtain rfl:y=y':=Option.some.inj (hy.symm.trans hy');walk_at "W";refine⟨y,rfl,.inl ⟨_,.inl hr0⟩,?_⟩;walk_at "W";refine⟨_,DGet.k (k:=Sum.inl k) hr0,?_⟩;rw[oV_getD];walk_at "W";refine⟨rfl,?_⟩;walk_at "W";refine ite2 (fun hc=>?_) (fun hc=>?_)
 · have e:sLook f m R k=none:=by
    unfold sLook;cases e:rLook (sRow f m R k) k with
    | none=>rfl
    | some z=>rw[e]at hc;exact absurd (of_decide_eq_true hc) (by intro z;cases z)
   rw[e,if_pos rfl]at ht;walk_at "W";refine SW.iFld hp g.cl_Shelf g.n_Shelf_held (sfl_held _ _ _) ?_;walk_at "W";refine⟨_,_,rfl,rfl,dx,_,hp,by show 3 < 1000;decide,?_⟩
   rw[sfl_put];walk_at "W";refine⟨y,_,rfl,DPut.k (k:=Sum.inl k) (by rw[upd_ne npy.symm];exact hr0) hlen,?_⟩
   walk_at "W";rw[putK_kvs];refine q _ ⟨t,L,ds,X.set hy hok ⟨dx,?_⟩ upd_same fun b o n1 n2 e=>?_,hF⟩ fun b o nb e=>?_
   · rw[upd_ne npy,upd_same]
     show _=some (HO.ins C dx (sfl t L (tot (sPut f m R k v))));rw[ht]
     rfl
   · rw[upd_ne n2,upd_ne n1];exact e
   rw[upd_ne (fun z:b=y=>nb (z ▸ Fy)),upd_ne (fun z:b=p=>nb (z ▸ Fp))];exact e
 have e:¬ sLook f m R k=none:=fun e=>hc (by
  unfold sLook at e;rw[e];exact decide_eq_true rfl)
 rw[if_neg e]at ht;walk_at "W";refine⟨y,_,rfl,DPut.k (k:=Sum.inl k) hr0 hlen,?_⟩;walk_at "W";rw[putK_kvs];refine q _ ⟨t,L,ds,X.set hy hok ⟨dx,?_⟩ upd_same fun b o n1 n2 e=>?_,hF⟩ fun b o nb e=>?_
 · rw[upd_ne npy]
   show _=some (HO.ins C dx (sfl t L (tot (sPut f m R k v))));rw[ht];exact hp
 · rw[upd_ne n2];exact e
 rw[upd_ne (fun z:b=y=>nb (z ▸ Fy))];exact e
theorem q82_(d:Dm K C "look" "Shelf.look" z4_ ["self","key"])(q64_:Mt P w K mg base C "row_with" 3 ["self","key"] (spSRowW C))(g:Gs K mg C CT):Mt P w K mg base C "look" 4 ["self","key"] (spSLook C):=by
 refine d.mt z63_ (fun vs H Q E h=>?_) (fun f cdv A outer s H vs Q E hr h=>?_)
 · obtain⟨p,k,f,m,R,F,rfl,_⟩:=h
   rfl
 obtain⟨p,k,f,m,R,F,rfl,S,q⟩:=h;obtain⟨t,L,ds,X,hF⟩:=id S;obtain⟨y,hy,hr0⟩:=X.place k;refine⟨_,(B.sone (B.ret (B.dget1 (hu_of hr) (B.meth (B.v 0) g.cl_Shelf q64_ hr.up (B.cons (B.v 1) B.nil)) (B.v 1) (m:=B.m1)))),?_⟩;walk_at "W";refine wS S ⟨by decide +kernel,by decide +kernel,by decide +kernel⟩ ?_
 walk_at "W";refine SW.wSRowW X fun y' hy'=>?_;obtain rfl:y=y':=Option.some.inj (hy.symm.trans hy');refine⟨y,rfl,.inl ⟨_,.inl hr0⟩,?_⟩;walk_at "W";refine⟨_,DGet.k (k:=Sum.inl k) hr0,?_⟩;rw[oV_getD];exact q
theorem q88_(d:Dm K C "size" "Shelf.size" z10_ ["self"])(g:Gs K mg C CT):Mt P w K mg base C "size" 1 ["self"] (spSSize C):=by
 refine d.mt z69_ (fun vs H Q E h=>?_) (fun f cdv A outer s H vs Q E hr h=>?_)
 · obtain⟨p,f,m,R,F,rfl,_⟩:=h
   rfl
 obtain⟨p,f,m,R,F,rfl,⟨t,L,ds,X,hF⟩,q⟩:=h;obtain⟨dx,hp⟩:=X.ob;refine⟨_,(B.sone (B.ret (B.cB call_len_seq g.b_len SW.b_len (B.cons (B.fld (B.v 0)) B.nil)))),?_⟩;walk_at "W";refine SW.iFld hp g.cl_Shelf g.n_Shelf_rows (sfl_rows _ _ _) ?_;walk_at "W";refine SW.iLen (.inl (SqL.of X.rw)) ?_;rw[List.length_map,X.len];exact q
theorem q83_(d:Dm K C "many" "Shelf.many" z5_ ["self"])(g:Gs K mg C CT):Mt P w K mg base C "many" 1 ["self"] (spSMany C):=by
 refine d.mt z64_ (fun vs H Q E h=>?_) (fun f cdv A outer s H vs Q E hr h=>?_)
 · obtain⟨p,f,m,R,F,rfl,_⟩:=h
   rfl
 obtain⟨p,f,m,R,F,rfl,⟨t,L,ds,X,hF⟩,q⟩:=h;obtain⟨dx,hp⟩:=X.ob;refine⟨_,(B.sone (B.ret (B.fld (B.v 0)))),?_⟩;walk_at "W";exact⟨p,C,dx,_,_,rfl,hp,g.cl_Shelf,g.n_Shelf_held,sfl_held _ _ _,q⟩
theorem q77_(d:Dm K C "check_place" "Shelf.check_place" z1_ ["self","place"])(g:Gs K mg C CT)(q12_:Fn P w K mg base "is_whole" 1 ["thing"] spWhole):Mt P w K mg base C "check_place" 2 ["self","place"] (spSCheck C):=by
 refine d.mt z60_ (fun vs H Q E h=>?_) (fun f cdv A outer s H vs Q E hr h=>?_)
 · obtain⟨p,i,f,m,R,F,rfl,_⟩:=h
   rfl
 obtain⟨p,i,f,m,R,F,rfl,⟨t,L,ds,X,hF⟩,i0,i1,q⟩:=h;obtain⟨dx,hp⟩:=X.ob;refine⟨_,(B.sone (B.ifs (B.tw (B.wor (B.tnot (B.tval (B.fn q12_ hr.up (B.cons (B.v 1) B.nil)))) (B.wor1 (B.tnot (B.tchain op_le op_lt B.int (B.v 1) (B.cB call_len_seq g.b_len SW.b_len (B.cons (B.fld (B.v 0)) B.nil))))))) (B.sone B.never) B.snil)),?_⟩;walk_at "W";refine⟨i,rfl,?_⟩;walk_at "W";refine iteF ?_;walk_at "W";refine iteY i0 ?_;walk_at "W";refine SW.iFld hp g.cl_Shelf g.n_Shelf_rows (sfl_rows _ _ _) ?_;walk_at "W";refine SW.iLen (.inl (SqL.of X.rw)) ?_;walk_at "W";rw[List.length_map,X.len];refine iteNS i1 ?_;walk_at "W";exact q
theorem q86_(d:Dm K C "row" "Shelf.row" z8_ ["self","place"])(g:Gs K mg C CT)(q57_:Mt P w K mg base C "check_place" 2 ["self","place"] (spSCheck C)):Mt P w K mg base C "row" 3 ["self","place"] (spSRow C):=by
 refine d.mt z67_ (fun vs H Q E h=>?_) (fun f cdv A outer s H vs Q E hr h=>?_)
 · obtain⟨p,i,f,m,R,F,rfl,_⟩:=h
   rfl
 obtain⟨p,i,f,m,R,F,rfl,S,hi,q⟩:=h;obtain⟨t,L,ds,X,hF⟩:=id S;obtain⟨dx,hp⟩:=X.ob;have hi':i < ds.length:=by rw[X.len];exact hi
 have hy:ds[i]?=some ds[i]:=List.getElem?_eq_getElem hi';have hr0:=X.at_ _ _ _ hy (getD_get hi);generalize ds[i]=y at hy hr0;refine⟨_,(B.scons (B.expr (B.meth (B.v 0) g.cl_Shelf q57_ hr.up (B.cons (B.v 1) B.nil)))
  (B.sone (B.ret (B.cT SW.call_list_items g.b_list SW.b_list (B.cons (B.items (B.ix ix_list (B.fld (B.v 0)) (B.v 1))) B.nil))))),?_⟩
 walk_at "W";refine wS S ⟨by decide +kernel,by decide +kernel,by decide +kernel⟩ ?_
 walk_at "W";refine⟨p,i,f,m,R,F,rfl,S,by omega,by omega,?_⟩
 walk_at "W";refine SW.iFld hp g.cl_Shelf g.n_Shelf_rows (sfl_rows _ _ _) ?_;walk_at "W";refine wIxL X.rw (v:=.ref y) ?_ ?_
 · refine atI_nat ?_
   rw[List.getElem?_map,hy]
   rfl
 refine⟨y,_,rfl,hr0,fun v hv=>?_⟩;walk_at "W";have s1:Same H (upd H v (ViewO v y)):=Same.new hv;refine⟨v,y,_,rfl,upd_same,s1 _ _ hr0,rfl,fun l as H' s2 hl hl' hlen hall=>?_⟩;refine q l _ H' (s1.trans s2) (s1.free hl) hl' (prs_of (by rw[hlen,kvs_len]) fun j a e=>?_)
 obtain⟨_,k,x,e1,e2⟩:=hall j a e;exact⟨k,x,e1,e2⟩
theorem q79_(d:Dm K C "empty" "Shelf.empty" z3_ ["self","place"])(g:Gs K mg C CT)(q63_:Mt P w K mg base C "row" 3 ["self","place"] (spSRow C)):Mt P w K mg base C "empty" 4 ["self","place"] (spSEmpty C):=by
 refine d.mt z62_ (fun vs H Q E h=>?_) (fun f cdv A outer s H vs Q E hr h=>?_)
 · obtain⟨p,i,f,m,R,F,rfl,_⟩:=h
   rfl
 obtain⟨p,i,f,m,R,F,rfl,S,hi,q⟩:=h;refine⟨_,(B.scons (B.set 2 z62_.nd (B.meth (B.v 0) g.cl_Shelf q63_ hr.up (B.cons (B.v 1) B.nil)))
  (B.scons (B.asg B.dnew (B.gsub (B.fld (B.v 0)) (B.v 1) set_list))
  (B.scons (B.faug in_sub (B.v 0) (B.cB call_len_seq g.b_len SW.b_len (B.cons (B.v 2) B.nil)))
  (B.sone (B.ret (B.v 2)))))),?_⟩
 walk_at "W";refine wS S ⟨by decide +kernel,by decide +kernel,by decide +kernel⟩ ?_
 walk_at "W";refine wSRow S (by omega) (by omega) fun l xs H1 s1 nl hl pr=>?_
 have S1:=S.same s1;obtain⟨t,L,ds,X,hF⟩:=id S1;obtain⟨dx,hp⟩:=X.ob;have pr:Prs H1 xs (R.getD i []):=pr;walk_at "W";intro y hy;walk_at "W";have npy:p≠y:=ne_of_none hp hy;have nLy:L≠y:=ne_of_none X.rw hy;have nlp:l≠p:=ne_of hl hp (by intro z;cases z)
 have nlL:l≠L:=fun z=>S.fresh nl ((hF l).mpr (.inr (.inl z)));have nLp:L≠p:=ne_of X.rw hp (by intro z;cases z)
 have hlen:xs.length=(R.getD i []).length:=pr.len;have ht:=tot_set R i [] hi;have hpy:upd H1 y (.dK []) p=some (.ins C dx (sfl t L (tot R))):=by rw[upd_ne npy];exact hp
 refine SW.iFld hpy g.cl_Shelf g.n_Shelf_rows (sfl_rows _ _ _) ?_;walk_at "W";refine wSetL (j:=i) (by rw[upd_ne nLy];exact X.rw) (by
  unfold ixN;rw[List.length_map,X.len,if_pos (by omega),if_pos (by omega)]
  rfl) ?_
 rw[← List.map_set];have hp2:upd (upd H1 y (.dK [])) L (.lst ((ds.set i y).map V.ref)) p=some (.ins C dx (sfl t L (tot R))):=by rw[upd_ne nLp.symm];exact hpy
 have nly:l≠y:=ne_of_none hl hy;have hl2:upd (upd H1 y (.dK [])) L (.lst ((ds.set i y).map V.ref)) l=some (.lst xs):=by rw[upd_ne nlL,upd_ne nly];exact hl
 walk_at "W";refine SW.iFld hp2 g.cl_Shelf g.n_Shelf_held (sfl_held _ _ _) ?_;walk_at "W";refine SW.iLen (.inl (SqL.of hl2)) ?_;refine⟨_,_,rfl,rfl,dx,_,hp2,by show 3 < 1000;decide,?_⟩
 rw[sfl_put];walk_at "W";have keep:∀ b o,b≠p->b≠L->H1 b=some o->upd (upd (upd H1 y (.dK [])) L (.lst ((ds.set i y).map V.ref))) p (.ins C dx (sfl t L ((tot R:Nat) - (xs.length:Nat)))) b=some o:=fun b o n1 n2 e=>by
  rw[upd_ne n1,upd_ne n2,upd_ne (ne_of_none e hy)];exact e
 refine q l xs _ (fun b=>b=p∨b=L∨b∈ds.set i y) (fun b o nb e=>keep b o (fun z=>nb ((hF b).mpr (.inl z))) (fun z=>nb ((hF b).mpr (.inr (.inl z)))) (s1 _ _ e)) nl (fun z=>?_) (by rw[upd_ne nlp];exact hl2) (pr.keep fun a ys e=>keep a _ (ne_of e hp (by intro z;cases z)) (ne_of e X.rw (by intro z;cases z)) e) ⟨t,L,ds.set i y,X.emptied hi hy ⟨dx,?_⟩ ?_ ?_ keep,fun b=>Iff.rfl⟩ (fun b hb=>?_) fun b hb=>?_
 · rcases z with z | z | z
   · exact nlp z
   · exact nlL z
   rcases List.mem_or_eq_of_mem_set z with z | z
   · exact S.fresh nl ((hF l).mpr (.inr (.inr z)))
   exact nly z
 · rw[upd_same]
   have e0:([]:MRow).length=0:=rfl
   congr 3
   omega
 · rw[upd_ne npy.symm,upd_ne nLy.symm,upd_same]
 · rw[upd_ne nLp,upd_same]
 · rcases hb with z | z | z
   · exact .inl ((hF b).mpr (.inl z))
   · exact .inl ((hF b).mpr (.inr (.inl z)))
   rcases List.mem_or_eq_of_mem_set z with z | z
   · exact .inl ((hF b).mpr (.inr (.inr z)))
   exact .inr (by rw[z];exact s1.free hy)
 refine s1.free ?_;by_cases z1:b=p
 · rw[z1,upd_same]at hb;cases hb
 rw[upd_ne z1]at hb;by_cases z2:b=L
 · rw[z2,upd_same]at hb;cases hb
 rw[upd_ne z2]at hb;by_cases z3:b=y
 · rw[z3,upd_same]at hb;cases hb
 rw[upd_ne z3]at hb;exact hb
-- StV Any LamH S60
theorem t_due{mv d:Nat}(h1:mv<=9000)(h2:d<=5000):(-(2 ^ 62)<=(mv:Int)/\(mv:Int) < 2 ^ 62 /\ -(2 ^ 62)<=(mv:Int)+(d:Int)/\(mv:Int)+(d:Int) < 2 ^ 62)/\(mv:Int)<=(mv:Int)+(d:Int)/\(mv:Int)+(d:Int) - (mv:Int)<=1000000:=by omega
theorem q90_(d:Dm K CT "due_places" "Table.due_places" z14_ ["self"])(g:Gs K mg C CT)(q65_:Mt P w K mg base C "size" 1 ["self"] (spSSize C)):Mt P w K mg base CT "due_places" 2 ["self"] (spTDue C CT):=by
 refine d.mt z73_ (fun vs H Q E h=>?_) (fun f cdv A outer s H vs Q E hr h=>?_)
 · obtain⟨p,f,m,pc,M,tc,F,rfl,_⟩:=h
   rfl
 obtain⟨p,f,m,pc,M,tc,F,rfl,S,T,hpc,q⟩:=h;obtain⟨t,n,v,FN,FE,X,hF⟩:=id S;obtain⟨dx,hp⟩:=X.ob;have hel:=X.el;refine⟨_,(B.scons (B.ifs (B.tcmp op_isN (B.fld (B.v 0)) B.non) (B.sone (B.ret (B.lst B.nil))) B.snil)
  (B.sone (B.ret (B.cT SW.call_list_rng g.b_list SW.b_list (B.cons (B.cT SW.call_range2R g.b_range SW.b_range (B.cons (B.fld (B.v 0)) (B.cons (B.cB (call_min2 rfl) g.b_min SW.b_min (B.cons (B.op op_add (B.fld (B.v 0)) (B.fld (B.v 0))) (B.cons (B.meth0 (B.fld (B.v 0)) g.cl_Shelf q65_ hr.up) B.nil))) B.nil))) B.nil))))),?_⟩
 walk_at "W";refine SW.iFld hp g.cl_Table g.n_Table_elder (tfl_elder ..) ?_;walk_at "W";refine⟨rfl,?_⟩;walk_at "W";cases e:M.el with
 | none=>
   rw[e]at hel;obtain⟨rfl,_⟩:=hel;refine iteT ?_;walk_at "W";refine⟨by show(0:Nat)<=sizeLine;decide,fun l hl=>q l _ (Same.new hl) hl ?_⟩
   have:due pc M=0:=by unfold due;rw[e]
   rw[this];exact upd_same
 | some EE=>
   rw[e]at hel;obtain⟨ea,rfl,SE⟩:=hel;obtain⟨PE',sE,hm,_,_⟩:=T.el EE e;have bE:=sE.bounds;refine iteF ?_;walk_at "W";refine SW.iFld hp g.cl_Table g.n_Table_moved (tfl_moved ..) ?_;walk_at "W";refine SW.iFld hp g.cl_Table g.n_Table_moved (tfl_moved ..) ?_;walk_at "W";refine SW.iFld hp g.cl_Table g.n_Table_pace (tfl_pace ..) ?_;walk_at "W";refine SW.iFld hp g.cl_Table g.n_Table_elder (tfl_elder ..) ?_;walk_at "W";refine wS SE ⟨by decide +kernel,by decide +kernel,by decide +kernel⟩ ?_
   walk_at "W";refine wSSize SE ?_;walk_at "W";refine⟨_,_,rfl,?_⟩;walk_at "W";refine⟨_,_,rfl,fun r hr'=>?_⟩;walk_at "W";have hj:(if((EE.length:Nat):Int) < ((M.mv:Nat):Int)+((pc:Nat):Int)then((EE.length:Nat):Int)else((M.mv:Nat):Int)+((pc:Nat):Int))=(M.mv:Int)+(due pc M:Nat):=by
    unfold due;rw[e];show _=(M.mv:Int)+((min (M.mv+pc) EE.length - M.mv:Nat):Int);split <;> omega
   have hd:due pc M<=5000:=by
    have:=due_le (pc:=pc) e hm;omega
   rw[hj];have hz:=t_due (show M.mv<=9000 by omega) hd
   refine⟨r,_,_,rfl,upd_same,hz.1,hz.2.1,hz.2.2,rfl,fun l hl=>?_⟩;have s1:Same H (upd H r (.rng (M.mv:Int) ((M.mv:Int)+(due pc M:Nat)))):=Same.new hr';refine q l _ (s1.trans (Same.new hl)) (s1.free hl) ?_;rw[upd_same,show((M.mv:Int)+(due pc M:Nat) - (M.mv:Int)).toNat=due pc M by omega]
theorem q91_(d:Dm K CT "end_move" "Table.end_move" z15_ ["self"])(g:Gs K mg C CT)(q65_:Mt P w K mg base C "size" 1 ["self"] (spSSize C)):Mt P w K mg base CT "end_move" 2 ["self"] (spTEnd C CT):=by
 refine d.mt z74_ (fun vs H Q E h=>?_) (fun f cdv A outer s H vs Q E hr h=>?_)
 · obtain⟨p,f,m,pc,M,tc,F,rfl,_⟩:=h
   rfl
 obtain⟨p,f,m,pc,M,tc,F,rfl,S,q⟩:=h;obtain⟨t,n,v,FN,FE,X,hF⟩:=id S;obtain⟨dx,hp⟩:=X.ob;have hel:=X.el;refine⟨_,(B.sone (B.ifs (B.tw (B.wand (B.tcmp op_notN (B.fld (B.v 0)) B.non) (B.wand1 (B.tcmp op_eq (B.fld (B.v 0)) (B.meth0 (B.fld (B.v 0)) g.cl_Shelf q65_ hr.up))))) (B.scons (B.sfld (B.v 0) B.non)
  (B.sone (B.sfld (B.v 0) B.int))) B.snil)),?_⟩
 walk_at "W";refine SW.iFld hp g.cl_Table g.n_Table_elder (tfl_elder ..) ?_;walk_at "W";refine⟨rfl,?_⟩;walk_at "W";cases e:M.el with
 | none=>
   rw[e]at hel;obtain⟨rfl,_⟩:=hel;refine iteF ?_;refine iteF ?_;walk_at "W";have:endM M=M:=by unfold endM;rw[e]
   rw[this]at q;exact q H F S (fun b hb=>.inl hb) (Fr.refl F H)
 | some EE=>
   rw[e]at hel;obtain⟨ea,rfl,SE⟩:=hel;refine iteT ?_;walk_at "W";refine SW.iFld hp g.cl_Table g.n_Table_moved (tfl_moved ..) ?_;walk_at "W";refine SW.iFld hp g.cl_Table g.n_Table_elder (tfl_elder ..) ?_;walk_at "W";refine wS SE ⟨by decide +kernel,by decide +kernel,by decide +kernel⟩ ?_
   walk_at "W";refine wSSize SE ?_;walk_at "W";refine ite2 (fun hc=>?_) (fun hc=>?_)
   · have hc:M.mv=EE.length:=by
      have:=vi.mp (of_decide_eq_true hc);omega
     walk_at "W";refine SW.iSFld hp g.cl_Table g.n_Table_elder (by show 6 < 1000;decide) ?_
     rw[put_elder];walk_at "W";refine SW.iSFld upd_same g.cl_Table g.n_Table_moved (by show 6 < 1000;decide) ?_
     rw[put_moved,upd_upd];have:endM M=⟨none,0,M.nw⟩:=by unfold endM;rw[e];exact if_pos hc
     rw[this]at q;have fr:SW.Fr (fun b=>b=p) H (upd H p (.ins CT dx (tfl t pc .non 0 n tc))):=fun b o nb e=>by rw[upd_ne nb];exact e
     have nt:∀ b xs,H b=some (.tup xs) -> ¬ b=p:=fun b xs e=>ne_of e hp (by intro z;cases z)
     refine q _ (fun b=>b=p∨FN b) ⟨t,n,.non,FN,fun _=>False,⟨⟨dx,upd_same⟩,fr _ _ (nt _ _ X.mx) X.mx,X.bm,X.nw.keep fr (fun b hb z=>X.np.1 (z ▸ hb)) nt,⟨rfl,fun _ z=>z⟩,fun _ z=>z.elim,⟨X.np.1,fun z=>z⟩⟩,fun b=>by simp⟩ (fun b hb=>.inl ((hF b).mpr (hb.elim .inl fun z=>.inr (.inl z)))) (fun b o nb e=>fr b o (fun z=>nb ((hF b).mpr (.inl z))) e)
   have hc:¬ M.mv=EE.length:=fun z=>hc (decide_eq_true (vi.mpr (by rw[z])))
   walk_at "W";have:endM M=M:=by unfold endM;rw[e];exact if_neg hc
   rw[this]at q;exact q H F S (fun b hb=>.inl hb) (Fr.refl F H)
theorem q95_(d:Dm K CT "stands_on_elder" "Table.stands_on_elder" z24_ ["self","key"])(g:Gs K mg C CT)(q61_:Mt P w K mg base C "place_with" 2 ["self","key"] (spSPlace C)):Mt P w K mg base CT "stands_on_elder" 3 ["self","key"] (spTStands C CT):=by
 refine d.mt z83_ (fun vs H Q E h=>?_) (fun f cdv A outer s H vs Q E hr h=>?_)
 · obtain⟨p,k,f,m,pc,M,tc,F,rfl,_⟩:=h
   rfl
 obtain⟨p,k,f,m,pc,M,tc,F,rfl,S,q⟩:=h;obtain⟨t,n,v,FN,FE,X,hF⟩:=id S;obtain⟨dx,hp⟩:=X.ob;have hel:=X.el;refine⟨_,(B.sone (B.ret (B.and (B.cmp op_notN (B.fld (B.v 0)) B.non) (B.one (B.cmp op_ge (B.meth (B.fld (B.v 0)) g.cl_Shelf q61_ hr.up (B.cons (B.v 1) B.nil)) (B.fld (B.v 0))))))),?_⟩;walk_at "W";refine SW.iFld hp g.cl_Table g.n_Table_elder (tfl_elder ..) ?_;walk_at "W";refine⟨rfl,?_⟩;walk_at "W";cases e:M.el with
 | none=>
   rw[e]at hel;obtain⟨rfl,_⟩:=hel;refine iteF ?_;have:standsE f m M k=false:=by unfold standsE;rw[e]
   rw[this]at q;exact q
 | some EE=>
   rw[e]at hel;obtain⟨ea,rfl,SE⟩:=hel;refine iteT ?_;walk_at "W";refine SW.iFld hp g.cl_Table g.n_Table_elder (tfl_elder ..) ?_;walk_at "W";refine wS SE ⟨by decide +kernel,by decide +kernel,by decide +kernel⟩ ?_
   walk_at "W";refine wSPlace SE ?_;walk_at "W";refine SW.iFld hp g.cl_Table g.n_Table_moved (tfl_moved ..) ?_;walk_at "W";have:standsE f m M k=decide (((M.mv:Nat):Int)<=((plc f m EE.length k:Nat):Int)):=by
    unfold standsE;rw[e];show decide (M.mv<=plc f m EE.length k)=_;by_cases z:M.mv<=plc f m EE.length k
    · rw[decide_eq_true z,decide_eq_true (by omega)]
    rw[decide_eq_false z,decide_eq_false (by omega)]
   rw[this]at q;exact q
theorem q99_(d:Dm K CT "shelf_with" "Table.shelf_with" z21_ ["self","key"])(g:Gs K mg C CT)(q59_:Mt P w K mg base C "look" 4 ["self","key"] (spSLook C)):Mt P w K mg base CT "shelf_with" 5 ["self","key"] (spTWith C CT):=by
 refine d.mt z80_ (fun vs H Q E h=>?_) (fun f cdv A outer s H vs Q E hr h=>?_)
 · obtain⟨p,k,f,m,pc,M,tc,t,n,v,FN,FE,rfl,_⟩:=h
   rfl
 obtain⟨p,k,f,m,pc,M,tc,t,n,v,FN,FE,rfl,X,q1,q2⟩:=h;obtain⟨dx,hp⟩:=X.ob;have hel:=X.el;refine⟨_,(B.scons (B.ifs (B.tw (B.wand (B.tcmp op_notN (B.fld (B.v 0)) B.non) (B.wand1 (B.tcmp op_notN (B.meth (B.fld (B.v 0)) g.cl_Shelf q59_ hr.up (B.cons (B.v 1) B.nil)) B.non)))) (B.sone (B.ret (B.fld (B.v 0)))) B.snil)
  (B.sone (B.ret (B.fld (B.v 0))))),?_⟩
 walk_at "W";refine SW.iFld hp g.cl_Table g.n_Table_elder (tfl_elder ..) ?_;walk_at "W";refine⟨rfl,?_⟩;walk_at "W";cases e:M.el with
 | none=>
   rw[e]at hel;obtain⟨rfl,_⟩:=hel;refine iteF ?_;refine iteF ?_;walk_at "W";refine SW.iFld hp g.cl_Table g.n_Table_newer (tfl_newer ..) ?_;exact q2 (by unfold onE;rw[e])
 | some EE=>
   rw[e]at hel;obtain⟨ea,rfl,SE⟩:=hel;refine iteT ?_;walk_at "W";refine SW.iFld hp g.cl_Table g.n_Table_elder (tfl_elder ..) ?_;walk_at "W";refine wS SE ⟨by decide +kernel,by decide +kernel,by decide +kernel⟩ ?_
   walk_at "W";refine wSLook SE ?_;walk_at "W";refine⟨rfl,?_⟩;walk_at "W";cases z:sLook f m EE k with
   | none=>
     refine iteF ?_;walk_at "W";refine SW.iFld hp g.cl_Table g.n_Table_newer (tfl_newer ..) ?_;exact q2 (by unfold onE;rw[e];exact z)
   | some y=>
     refine iteT ?_;walk_at "W";refine SW.iFld hp g.cl_Table g.n_Table_elder (tfl_elder ..) ?_;exact q1 EE e (by rw[z];exact fun h=>by cases h)
theorem q98_(d:Dm K CT "wanted_size" "Table.wanted_size" z27_ ["self"])(g:Gs K mg C CT)(q65_:Mt P w K mg base C "size" 1 ["self"] (spSSize C))(q60_:Mt P w K mg base C "many" 1 ["self"] (spSMany C)):Mt P w K mg base CT "wanted_size" 2 ["self"] (spTWant C CT):=by
 refine d.mt z86_ (fun vs H Q E h=>?_) (fun f cdv A outer s H vs Q E hr h=>?_)
 · obtain⟨p,f,m,pc,M,tc,F,rfl,_⟩:=h
   rfl
 obtain⟨p,f,m,pc,M,tc,F,rfl,S,q⟩:=h;obtain⟨t,n,v,FN,FE,X,hF⟩:=id S;obtain⟨dx,hp⟩:=X.ob;obtain⟨aS,hS,tS⟩:=g.c_SIZES;have htop:=X.nw.top;refine⟨_,(B.scons (B.set 1 z86_.nd (B.meth0 (B.fld (B.v 0)) g.cl_Shelf q65_ hr.up))
  (B.scons (B.ifs (B.tcmp op_gt (B.meth0 (B.fld (B.v 0)) g.cl_Shelf q60_ hr.up) (B.v 1)) (B.sone (B.ret (B.cB (call_min2 rfl) g.b_min SW.b_min (B.cons (B.op op_mul (B.v 1) B.int) (B.cons (B.ix ix_tup (B.gref hS) (B.un un_neg B.int)) B.nil))))) B.snil)
  (B.scons (B.ifs (B.tcmp op_lt (B.op op_mul (B.meth0 (B.fld (B.v 0)) g.cl_Shelf q60_ hr.up) B.int) (B.v 1)) (B.sone (B.ret (B.cB (call_max2 rfl) g.b_max SW.b_max (B.cons (B.op op_fdivL (B.v 1) B.int) (B.cons (B.ix ix_tup (B.gref hS) B.int) B.nil))))) B.snil)
  (B.sone (B.ret (B.v 1)))))),?_⟩
 walk_at "W";refine SW.iFld hp g.cl_Table g.n_Table_newer (tfl_newer ..) ?_;walk_at "W";refine wS X.nw ⟨by decide +kernel,by decide +kernel,by decide +kernel⟩ ?_
 walk_at "W";refine wSSize X.nw ?_;walk_at "W";refine SW.iFld hp g.cl_Table g.n_Table_newer (tfl_newer ..) ?_;walk_at "W";refine wS X.nw ⟨by decide +kernel,by decide +kernel,by decide +kernel⟩ ?_
 walk_at "W";refine wSMany X.nw ?_;walk_at "W";refine ite2 (fun hc=>?_) (fun hc=>?_)
 · have hc:((M.nw.length:Nat):Int) < ((tot M.nw:Nat):Int):=of_decide_eq_true hc
   walk_at "W";refine⟨aS,_,_,_,rfl,rfl,tS _,rfl,?_⟩;walk_at "W";refine⟨_,_,rfl,?_⟩;have ew:(if(4096:Int) < ((M.nw.length:Nat):Int)*2 then(4096:Int)else((M.nw.length:Nat):Int)*2)=((want M.nw:Nat):Int):=by
    unfold want;rw[if_pos (show M.nw.length < tot M.nw by omega)]
    split <;> omega
   rw[ew];exact q
 have hc:¬ ((M.nw.length:Nat):Int) < ((tot M.nw:Nat):Int):=fun z=>hc (decide_eq_true z);walk_at "W";refine SW.iFld hp g.cl_Table g.n_Table_newer (tfl_newer ..) ?_;walk_at "W";refine wS X.nw ⟨by decide +kernel,by decide +kernel,by decide +kernel⟩ ?_
 walk_at "W";refine wSMany X.nw ?_;walk_at "W";refine ite2 (fun hc2=>?_) (fun hc2=>?_)
 · have hc2:((tot M.nw:Nat):Int)*8 < ((M.nw.length:Nat):Int):=of_decide_eq_true hc2
   walk_at "W";refine⟨aS,_,_,_,rfl,rfl,tS _,rfl,?_⟩;walk_at "W";refine⟨_,_,rfl,?_⟩;have ew:(if(4:Int) > ((M.nw.length:Nat):Int) / 2 then(4:Int)else((M.nw.length:Nat):Int) / 2)=((want M.nw:Nat):Int):=by
    unfold want;rw[if_neg (show ¬ M.nw.length < tot M.nw by omega),if_pos (show tot M.nw*8 < M.nw.length by omega)]
    split <;> omega
   rw[ew];exact q
 have hc2:¬ ((tot M.nw:Nat):Int)*8 < ((M.nw.length:Nat):Int):=fun z=>hc2 (decide_eq_true z);walk_at "W";have ew:want M.nw=M.nw.length:=by
  unfold want;rw[if_neg (show ¬ M.nw.length < tot M.nw by omega),if_neg (show ¬ tot M.nw*8 < M.nw.length by omega)]
 rw[ew]at q;exact q
theorem q89_(d:Dm K CT "begin_move" "Table.begin_move" z12_ ["self"])(g:Gs K mg C CT)(q76_:Mt P w K mg base CT "wanted_size" 2 ["self"] (spTWant C CT))(q65_:Mt P w K mg base C "size" 1 ["self"] (spSSize C))(q55_:Mkr P w K mg base C "Shelf" 3 ["self","size","mixer"] (spSInit C)):Mt P w K mg base CT "begin_move" 5 ["self"] (spTBegin C CT):=by
 refine d.mt z71_ (fun vs H Q E h=>?_) (fun f cdv A outer s H vs Q E hr h=>?_)
 · obtain⟨p,f,m,pc,M,tc,F,rfl,_⟩:=h
   rfl
 obtain⟨p,f,m,pc,M,tc,F,rfl,S,hsz,q⟩:=h;obtain⟨t,n,v,FN,FE,X,hF⟩:=id S;obtain⟨dx,hp⟩:=X.ob;have hel:=X.el;refine⟨_,(B.scons (B.ifs (B.tcmp op_notN (B.fld (B.v 0)) B.non) (B.sone B.retN) B.snil)
  (B.scons (B.set 1 z71_.nd (B.meth0 (B.v 0) g.cl_Table q76_ hr.up))
  (B.sone (B.ifs (B.tcmp op_ne (B.v 1) (B.meth0 (B.fld (B.v 0)) g.cl_Shelf q65_ hr.up)) (B.scons (B.sfld (B.v 0) (B.fld (B.v 0)))
  (B.sone (B.sfld (B.v 0) (B.make q55_ hr.up (B.cons (B.v 1) (B.cons (B.fld (B.v 0)) B.nil)))))) B.snil)))),?_⟩
 walk_at "W";refine SW.iFld hp g.cl_Table g.n_Table_elder (tfl_elder ..) ?_;walk_at "W";refine⟨rfl,?_⟩;walk_at "W";cases e:M.el with
 | some EE=>
   rw[e]at hel;obtain⟨ea,rfl,SE⟩:=hel;refine iteT ?_;walk_at "W";have:beg M=M:=by unfold beg;rw[e]
   rw[this]at q;exact q H F S (fun b hb=>.inl hb) (Fr.refl F H)
 | none=>
   rw[e]at hel;obtain⟨rfl,nFE⟩:=hel;refine iteF ?_;walk_at "W";refine wT S nt_wanted_size ?_;walk_at "W";refine SW.wTWant S ?_;walk_at "W";refine SW.iFld hp g.cl_Table g.n_Table_newer (tfl_newer ..) ?_;walk_at "W";refine wS X.nw ⟨by decide +kernel,by decide +kernel,by decide +kernel⟩ ?_
   walk_at "W";refine wSSize X.nw ?_;walk_at "W";rw[decI];refine iteB (fun hc=>?_) (fun hc=>?_)
   · have hc:¬ want M.nw=M.nw.length:=fun z=>by
      rw[decide_eq_true (by rw[z])]at hc
      cases hc
     have hw:=want_size hsz;walk_at "W";refine SW.iFld hp g.cl_Table g.n_Table_newer (tfl_newer ..) ?_;walk_at "W";refine SW.iSFld hp g.cl_Table g.n_Table_elder (by show 6 < 1000;decide) ?_
     rw[put_elder];have fr:∀ o,SW.Fr (fun b=>b=p) H (upd H p o):=fun o b u nb e=>by rw[upd_ne nb];exact e
     have nt:∀ b xs,H b=some (.tup xs) -> ¬ b=p:=fun b xs e=>ne_of e hp (by intro z;cases z)
     walk_at "W";refine SW.iFld upd_same g.cl_Table g.n_Table_mixer (tfl_mixer ..) ?_;walk_at "W";refine wShelf (n:=((want M.nw:Nat):Int)) (fr _ _ _ (nt _ _ X.mx) X.mx) X.bm (by omega) (by simpa using hw) fun sn H2 FS S2 nS s2=>?_
     have S2:Sh C H2 sn f m (List.replicate (want M.nw) []) FS:=S2;walk_at "W";refine⟨p,CT,dx,_,rfl,s2 _ _ upd_same,g.cl_Table,g.n_Table_newer,by show 6 < 1000;decide,?_⟩
     rw[put_newer];have eg:beg M=⟨some M.nw,M.mv,List.replicate (want M.nw) []⟩:=by unfold beg;rw[e];exact if_neg hc
     rw[eg]at q;have fr2:∀ o,SW.Fr (fun b=>b=p) H (upd H2 p o):=fun o b u nb e=>by rw[upd_ne nb];exact s2 _ _ (fr _ b u nb e)
     have nS':∀ b,FS b->H b=none:=fun b hb=>by
      have h1:=nS b hb;by_cases z:b=p
      · subst z;rw[upd_same]at h1;cases h1
      rw[upd_ne z]at h1;exact h1
     have fr3:SW.Fr (fun b=>b=p) H2 (upd H2 p (.ins CT dx (tfl t pc (.ref n) M.mv sn tc))):=fun b u nb e=>by rw[upd_ne nb];exact e
     have nFp:¬ FS p:=fun z=>by rw[nS' p z]at hp;cases hp
     have nt2:∀ b xs,H2 b=some (.tup xs) -> ¬ b=p:=fun b xs e z=>by
      have h1:=s2 _ _ (upd_same (H:=H) (a:=p) (o:=.ins CT dx (tfl t pc (.ref n) M.mv n tc)));rw[z,h1]at e;cases e
     refine q _ (fun b=>b=p∨FS b∨FN b) ⟨t,sn,.ref n,FS,FN,⟨⟨dx,upd_same⟩,fr2 _ _ _ (nt _ _ X.mx) X.mx,X.bm,S2.keep fr3 (fun b hb z=>nFp (z ▸ hb)) nt2,⟨n,rfl,X.nw.keep (fr2 _) (fun b hb z=>X.np.1 (z ▸ hb)) nt⟩,fun b hb hz=>X.nw.fresh (nS' b hz) hb,⟨nFp,X.np.1⟩⟩,fun b=>Iff.rfl⟩ (fun b hb=>?_) (fun b o nb e=>fr2 _ b o (fun z=>nb ((hF b).mpr (.inl z))) e);rcases hb with z | z | z
     · exact .inl ((hF b).mpr (.inl z))
     · exact .inr (nS' b z)
     exact .inl ((hF b).mpr (.inr (.inl z)))
   have hc:want M.nw=M.nw.length:=by
    have:decide (((want M.nw:Nat):Int)=((M.nw.length:Nat):Int))=true:=by
     cases z:decide (((want M.nw:Nat):Int)=((M.nw.length:Nat):Int))with
     | true=>rfl
     | false=>rw[z]at hc;cases hc
    have:=of_decide_eq_true this;omega
   walk_at "W";have eg:beg M=M:=by unfold beg;rw[e];exact if_pos hc
   rw[eg]at q;exact q H F S (fun b hb=>.inl hb) (Fr.refl F H)
theorem q94_(d:Dm K CT "move_place" "Table.move_place" z19_ ["self","place"])(g:Gs K mg C CT)(q58_:Mt P w K mg base C "empty" 4 ["self","place"] (spSEmpty C))(q62_:Mt P w K mg base C "put" 4 ["self","key","worth"] (spSPut C))(q61_:Mt P w K mg base C "place_with" 2 ["self","key"] (spSPlace C)):Mt P w K mg base CT "move_place" 5 ["self","place"] (spTMove C CT):=by
 refine d.mt z78_ (fun vs H Q E h=>?_) (fun f cdv A outer s H vs Q E hr h=>?_)
 · obtain⟨p,i,f,m,pc,E,N,mv,tc,F,rfl,_⟩:=h
   rfl
 obtain⟨p,i,f,m,pc,EE,N,mv,tc,F,rfl,S,hi,PP,htot,q⟩:=h;obtain⟨t,n,v,FN,FE,X,hF⟩:=id S;obtain⟨dx,hp⟩:=X.ob;have hel:∃ e,v=.ref e/\Sh C H e f m EE FE:=X.el;obtain⟨ea,rfl,SE⟩:=hel;have SN:Sh C H n f m N FN:=X.nw;refine⟨_,(B.scons (B.set 2 z78_.nd (B.meth (B.fld (B.v 0)) g.cl_Shelf q58_ hr.up (B.cons (B.v 1) B.nil)))
  (B.scons (B.fors (B.ilist (B.v 2)) (B.gtup (B.gcons (B.gname (i:=3) z78_.nd) (B.gcons (B.gname (i:=4) z78_.nd) B.gnil))) (B.sone (B.expr (B.meth (B.fld (B.v 0)) g.cl_Shelf q62_ hr.up (B.cons (B.v 3) (B.cons (B.v 4) B.nil))))))
  (B.sone (B.ret (SW.B.comp [0] ["pair","self"] (SW.CompScope.of rfl rfl (by decide +kernel) (by decide +kernel) rfl ⟨rfl,trivial⟩ rfl rfl rfl) (by decide +kernel) (B.ilist (B.v 2)) (fun _ _ _ _=>(B.meth (B.fldK K (B.v 1)) g.cl_Shelf q61_ hr.up (B.cons (B.ix (SW.ix_tupK K) (B.v 0) B.int) B.nil)))))))),?_⟩
 walk_at "W";refine SW.iFld hp g.cl_Table g.n_Table_elder (tfl_elder ..) ?_;walk_at "W";refine wS SE ⟨by decide +kernel,by decide +kernel,by decide +kernel⟩ ?_
 walk_at "W";refine wSEmpty SE (by omega) (by omega) fun l xs H1 FE' K1 nl nFl hl pr SE1 gr lv=>?_
 have pr:Prs H1 xs (EE.getD i []):=pr;have SE1:Sh C H1 ea f m (EE.set i []) FE':=SE1;have hp1:=K1 _ _ X.np.2 hp;have SN1:=SN.keep K1 (fun b hb z=>X.ne b z hb) fun b xs e=>SE.notup e;have mx1:=K1 _ _ (SE.notup X.mx) X.mx;have nEN:∀ b,FE' b -> ¬ FN b:=fun b hb hn=>by
  rcases gr b hb with z | z
  · exact X.ne b z hn
  exact SN.fresh z hn
 have nEp:¬ FE' p:=fun z=>by
  rcases gr p z with z | z
  · exact X.np.2 z
  rw[z]at hp;cases hp
 have nlN:¬ FN l:=SN.fresh nl;have lx:=pr.len;walk_at "W";refine⟨l,rfl,⟨_,SqL.of hl⟩,?_⟩;refine L2.for_list (xs:=xs) (fun j σ H'=>∃ v3 v4,σ=[some (.ref p),some (.int i),some (.ref l),v3,v4]/\Sh C H' n f m (putAll f m N ((EE.getD i []).take j)) FN/\SW.Fr FN H1 H') ⟨none,none,rfl,SN1,Fr.refl _ _⟩ (fun j σ H' _ ⟨_,_,_,_,k'⟩=>SqL.of (k' _ _ nlN hl)) ?_ ?_
 · rintro j x σ H' hx ⟨v3,v4,rfl,S',k'⟩
   have hj:j < (EE.getD i []).length:=by
    have:=(List.getElem?_eq_some_iff.mp hx).1;omega
   obtain⟨a,e1,e2⟩:=pr.get (List.getElem?_eq_getElem hj);obtain rfl:V.ref a=x:=Option.some.inj (e1.symm.trans hx);have e2':=k' _ _ (SN1.notup e2) e2;have hp':=k' _ _ X.np.1 hp1;refine⟨a,_,rfl,SqT.of e2',rfl,_,_,rfl,_,_,rfl,rfl,?_⟩;walk_at "W";refine SW.iFld hp' g.cl_Table g.n_Table_newer (tfl_newer ..) ?_;walk_at "W";refine wS S' ⟨by decide +kernel,by decide +kernel,by decide +kernel⟩ ?_
   walk_at "W";refine wSPut S' ?_ fun H2 S2 K2=>?_
   · have h1:=tot_putAll_le (f:=f) (m:=m) (r:=(EE.getD i []).take j) SN.pos
     have h2:((EE.getD i []).take j).length<=(EE.getD i []).length:=by rw[List.length_take];exact Nat.min_le_right _ _
     have h3:=len_le_tot EE i;omega
   walk_at "W";refine⟨_,_,rfl,?_,k'.trans K2⟩;rw[putAll_take (List.getElem?_eq_getElem hj)];exact S2
 rintro σ H2 ⟨v3,v4,rfl,S2,k2⟩;rw[List.take_of_length_le (by omega)]at S2
 have hl2:=k2 _ _ nlN hl;have hp2:=k2 _ _ X.np.1 hp1;have pr2:=pr.keep fun a ys e=>k2 _ _ (SN1.notup e) e;walk_at "W";refine⟨l,rfl,⟨_,SqL.of hl2⟩,fun D hD=>?_⟩;refine comp_listU (xs:=xs) (fun j σ' H'=>Same H2 H'/\(∃ v,σ'=[v,some (.ref p)])/\H' D=some (.lst ((((EE.getD i []).take j).map fun q=>((plc f m N.length q.1:Nat):Int)).map V.int))) ⟨Same.new hD,⟨none,rfl⟩,upd_same⟩ (fun j σ' H' _ ⟨s',_⟩=>SqL.of (s' _ _ hl2)) ?_ ?_
 · rintro j x σ' H' hx hjx ⟨s',⟨v,rfl⟩,hD'⟩
   have hj:j < (EE.getD i []).length:=by omega
   obtain⟨a,e1,e2⟩:=pr2.get (List.getElem?_eq_getElem hj);obtain rfl:V.ref a=x:=Option.some.inj (e1.symm.trans hx);have e2':=s' _ _ e2;have S3:=S2.same s';walk_at "W";refine⟨p,CT,dx,_,_,rfl,s' _ _ hp2,g.cl_Table,g.n_Table_newer,tfl_newer ..,?_⟩;walk_at "W";refine wS S3 ⟨by decide +kernel,by decide +kernel,by decide +kernel⟩ ?_
   walk_at "W";refine wSPlace S3 ?_;rw[putAll_len];have hr90:(EE.getD i []).length<=90000:=Nat.le_trans (len_le_tot EE i) (by omega)
   refine CN.mk hjx hD' (by
    rw[List.length_map,List.length_map,List.length_take];have:sizeLine=16777216:=sizeLine_eq
    omega) ⟨fun b o e=>?_,⟨_,rfl⟩,?_⟩
   · rw[upd_ne (ne_of_none e hD)];exact s' _ _ e
   rw[upd_same,List.take_add_one,List.getElem?_eq_getElem hj,List.map_append,List.map_append]
   rfl
 rintro σ' H3 ⟨s3,⟨v,rfl⟩,hD3⟩;rw[List.take_of_length_le (by omega)]at hD3
 have X3:TbX C CT H3 p f m pc ⟨some (EE.set i []),mv,putAll f m N (EE.getD i [])⟩ tc t n (.ref ea) FN FE':=
  ⟨⟨dx,s3 _ _ hp2⟩,s3 _ _ (k2 _ _ (SN1.notup mx1) mx1),X.bm,S2.same s3,⟨ea,rfl,(SE1.keep k2 nEN fun b xs e=>SN1.notup e).same s3⟩,nEN,⟨X.np.1,nEp⟩⟩
 have fr:SW.Fr F H H3:=fun b o nb e=>s3 _ _ (k2 _ _ (fun z=>nb ((hF b).mpr (.inr (.inl z)))) (K1 _ _ (fun z=>nb ((hF b).mpr (.inr (.inr z)))) e));have nD:H D=none:=lv D (by
  cases e:H1 D with
  | none=>rfl
  | some o=>
    exfalso
    by_cases zN:FN D
    · obtain⟨o',e',_⟩:=S2.live zN
      rw[hD]at e';cases e'
    rw[k2 _ _ zN e]at hD;cases hD)
 refine q D H3 _ X3.tb (fun b hb=>?_) fr nD (fun z=>?_) hD3
 · rcases hb with z | z | z
   · exact .inl ((hF b).mpr (.inl z))
   · exact .inl ((hF b).mpr (.inr (.inl z)))
   rcases gr b z with z | z
   · exact .inl ((hF b).mpr (.inr (.inr z)))
   exact .inr z
 rcases z with z | z | z
 · rw[z,hp2]at hD;cases hD
 · obtain⟨o',e',_⟩:=S2.live z
   rw[hD]at e';cases e'
 obtain⟨o',e',_⟩:=(SE1.keep k2 nEN fun b xs e=>SN1.notup e).live z;rw[hD]at e';cases e'
theorem T_go(d:Dm K CT "go_on" "Table.go_on" z16_ ["self","key"])(g:Gs K mg C CT)(q67_:Mt P w K mg base CT "due_places" 2 ["self"] (spTDue C CT))(q71_:Mt P w K mg base CT "move_place" 5 ["self","place"] (spTMove C CT))(q68_:Mt P w K mg base CT "end_move" 2 ["self"] (spTEnd C CT))
 (q73_:Mt P w K mg base CT "stands_on_elder" 3 ["self","key"] (spTStands C CT)) (q61_:Mt P w K mg base C "place_with" 2 ["self","key"] (spSPlace C)):Mt P w K mg base CT "go_on" 6 ["self","key"] (spTGo C CT):=by
 refine d.mt z75_ (fun vs H Q E h=>?_) (fun f cdv A outer s H vs Q E hr h=>?_)
 · obtain⟨p,k,f,m,pc,M,tc,F,rfl,_⟩:=h
   rfl
 obtain⟨p,k,f,m,pc,M,tc,F,rfl,S,T,hpc,hcnt,q⟩:=h;have hdue:due pc M<=5000:=by
  unfold due;cases e:M.el with
  | none=>exact Nat.zero_le _
  | some EE=>
    have:=(T.el EE e).2.1.bounds;show min (M.mv+pc) EE.length - M.mv<=5000;omega
 refine⟨_,(B.scons (B.set 2 z75_.nd (B.meth0 (B.v 0) g.cl_Table q67_ hr.up))
  (B.scons (B.set 3 z75_.nd (B.lst (B.cons (B.meth (B.fld (B.v 0)) g.cl_Shelf q61_ hr.up (B.cons (B.v 1) B.nil)) B.nil)))
  (B.scons (B.fors (B.ilist (B.v 2)) (B.gname (i:=4) z75_.nd) (B.sone (B.expr (B.m PySem.F.plainAttrs_list PySem.F.slot_list_extend PySem.F.type_list_extend mt_extend (B.v 3) (B.cons (B.meth (B.v 0) g.cl_Table q71_ hr.up (B.cons (B.v 4) B.nil)) B.nil)))))
  (B.scons (B.faug in_add (B.v 0) (B.cB call_len_seq g.b_len SW.b_len (B.cons (B.v 2) B.nil)))
  (B.scons (B.expr (B.meth0 (B.v 0) g.cl_Table q68_ hr.up))
  (B.scons (B.set 5 z75_.nd (B.ifx (B.tval (B.meth (B.v 0) g.cl_Table q73_ hr.up (B.cons (B.v 1) B.nil))) B.int B.int))
  (B.sone (B.sfld (B.v 0) (B.op op_add (B.op op_add (B.cB call_len_seq g.b_len SW.b_len (B.cons (B.v 2) B.nil)) (B.cB SW.call_lenS g.b_len SW.b_len (B.cons (B.cT SW.call_setL g.b_set SW.b_set (B.cons (B.v 3) B.nil)) B.nil))) (B.v 5)))))))))),?_⟩
 walk_at "W";refine wT S nt_due_places ?_;walk_at "W";refine SW.wTDue S T hpc fun ld H1 s1 nld hld=>?_;have S1:=S.same s1;obtain⟨t,n,v,FN,FE,X,hF⟩:=id S1;obtain⟨dx,hp⟩:=X.ob;walk_at "W";refine SW.iFld hp g.cl_Table g.n_Table_newer (tfl_newer ..) ?_;walk_at "W";refine wS X.nw ⟨by decide +kernel,by decide +kernel,by decide +kernel⟩ ?_
 walk_at "W";refine wSPlace X.nw ?_;walk_at "W";refine⟨by show(1:Nat)<=sizeLine;decide,fun lr hlr=>?_⟩
 have s2:Same H1 (upd H1 lr (.lst [.int (plc f m M.nw.length k:Nat)])):=Same.new hlr;have S2:=S1.same s2;have hld2:=s2 _ _ hld;have hlr2:upd H1 lr (.lst [.int (plc f m M.nw.length k:Nat)]) lr=some (.lst [.int (plc f m M.nw.length k:Nat)]):=upd_same;have nrd:lr≠ld:=(ne_of_none hld hlr).symm;have nFd:¬ F ld:=S.fresh nld;have nFr:¬ F lr:=S1.fresh hlr;generalize upd H1 lr (.lst [.int (plc f m M.nw.length k:Nat)])=H2 at *;have lrn:H lr=none:=s1.free hlr;walk_at "W";refine⟨ld,rfl,⟨_,SqL.of hld2⟩,?_⟩;have lseq:((seqI M.mv (due pc M)).map V.int).length=due pc M:=by unfold seqI;simp
 refine SW.forListC (xs:=(seqI M.mv (due pc M)).map V.int) (fun j σ H'=>∃ F' v4,σ=[some (.ref p),some (.int k),some (.ref ld),some (.ref lr),v4,none]/\Tb C CT H' p f m pc (mid f m M j) tc F'/\Gr H2 F F'/\SW.Fr (fun b=>F b∨b=lr) H2 H' /\ ¬ F' lr /\ ¬ F' ld /\
  H' lr=some (.lst ((((plc f m M.nw.length k:Nat):Int)::rch f m M j).map V.int))) ?_ (fun j σ H' _ z=>z.elim fun _ z=>z.elim fun _ z=>SqL.of (z.2.2.2.1 _ _ (fun z=>z.elim nFd fun z=>nrd z.symm) hld2)) ?_ ?_
 · refine⟨F,none,rfl,?_,fun b hb=>.inl hb,fun b o _ e=>e,nFr,nFd,?_⟩
   · have:mid f m M 0=M:=by
      unfold mid;cases e:M.el with
      | none=>rfl
      | some EE=>cases M;simp at e;subst e;rfl
     rw[this];exact S2
   have:rch f m M 0=[]:=by unfold rch;cases M.el <;> rfl
   rw[this];exact hlr2
 · rintro j x σ H' hx ⟨F',v4,rfl,S',g',k',nlr,nld',hlr'⟩
   have hj:j < due pc M:=by
    have:=(List.getElem?_eq_some_iff.mp hx).1;omega
   obtain rfl:V.int ((M.mv:Int)+(j:Int))=x:=by
    unfold seqI at hx;rw[List.getElem?_map,List.getElem?_map,List.getElem?_range hj]at hx;exact Option.some.inj hx
   cases e:M.el with
   | none=>
     have:due pc M=0:=by unfold due;rw[e]
     omega
   | some EE=>
     obtain⟨PE',sE,hm,_,_⟩:=T.el EE e;have hdl:=due_le (pc:=pc) e hm;obtain⟨PJ,l1,l2,_,tj⟩:=moves_ok j (T.pair e) (by omega)
     have em:mid f m M j=⟨some (moves f m EE M.nw M.mv j).1,M.mv,(moves f m EE M.nw M.mv j).2⟩:=by unfold mid;rw[e]
     have em1:mid f m M (j+1)=⟨some ((moves f m EE M.nw M.mv j).1.set (M.mv+j) []),M.mv,putAll f m (moves f m EE M.nw M.mv j).2 ((moves f m EE M.nw M.mv j).1.getD (M.mv+j) [])⟩:=by unfold mid;rw[e];simp only[moves_snoc]
     have er:rch f m M (j+1)=rch f m M j++(EE.getD (M.mv+j) []).map fun p=>((plc f m M.nw.length p.1:Nat):Int):=by unfold rch;rw[e];simp only[reach_snoc]
     have ec:cnt M=tot EE+tot M.nw:=by unfold SW.cnt;rw[e]
     have hcnt:=hcnt.resolve_right (fun z=>by rw[e]at z;cases z)
     have hrl:(rch f m M j).length<=4000:=by
      have:=reach_tot (f:=f) (m:=m) (n:=M.nw.length) j EE M.nw M.mv (by omega)
      have e2:rch f m M j=reach f m M.nw.length EE M.mv j:=by unfold rch;rw[e]
      rw[e2];omega
     rw[em]at S';walk_at "W";refine wBM ?_;walk_at "W";refine⟨.inl ⟨rfl,_,SqL.of hlr'⟩,?_⟩;walk_at "W";refine wT S' nt_move_place ?_;walk_at "W";refine⟨p,M.mv+j,f,m,pc,_,_,M.mv,tc,F',rfl,S',by rw[l1];omega,PJ,by omega,fun l3 H3 F3 S3 g3 k3 nl3 nF3 hl3=>?_⟩
     have hlr3:=k3 _ _ nlr hlr';rw[moves_getD j EE M.nw M.mv (M.mv+j) (Nat.le_refl _) (by omega),l2]at hl3
     walk_at "W";refine⟨lr,l3,_,_,rfl,rfl,hlr3,hl3,?_,?_⟩
     · rw[List.length_map,List.length_map,List.length_map,List.length_cons]
       have h1:=len_le_tot EE (M.mv+j);have:sizeLine=16777216:=sizeLine_eq;omega
     have fr4:∀ o,SW.Fr (fun b=>b=lr) H3 (upd H3 lr o):=fun o b u nb e=>by rw[upd_ne nb];exact e
     have nlr3:¬ F3 lr:=fun z=>by
      rcases g3 lr z with z | z
      · exact nlr z
      rw[z]at hlr';cases hlr'
     have nld3:¬ F3 ld:=fun z=>by
      rcases g3 ld z with z | z
      · exact nld' z
      rw[k' _ _ (fun z=>z.elim nFd fun z=>nrd z.symm) hld2]at z;cases z
     walk_at "W";refine⟨F3,_,rfl,?_,?_,?_,nlr3,nld3,?_⟩
     · rw[em1]
       exact S3.keep (fr4 _) (fun b hb z=>nlr3 (z ▸ hb)) fun b xs e z=>by rw[z,hlr3]at e;cases e
     · intro b hb
       rcases g3 b hb with z | z
       · exact g' b z
       by_cases hFb:F b
       · exact .inl hFb
       by_cases hb2:b=lr
       · rw[hb2,hlr']at z;cases z
       cases eb:H2 b with
       | none=>exact .inr rfl
       | some o=>rw[k' _ _ (fun y=>y.elim hFb hb2) eb]at z;cases z
     · intro b o nb eb
       have h1:=k' b o nb eb;have nF'b:¬ F' b:=fun z=>by
        rcases g' b z with z | z
        · exact nb (.inl z)
        rw[z]at eb;cases eb
       rw[upd_ne (fun z=>nb (.inr z))];exact k3 b o nF'b h1
     rw[upd_same,er];rw[← List.map_append]
     rfl
 rintro σ H' ⟨F',v4,rfl,S',g',k',nlr,nld',hlr'⟩;rw[lseq]at S' hlr';have hld':=k' _ _ (fun z=>z.elim nFd fun z=>nrd z.symm) hld2;obtain⟨t',n',v',FN',FE',X',hF'⟩:=id S';obtain⟨dx',hp'⟩:=X'.ob;walk_at "W";refine SW.iFld hp' g.cl_Table g.n_Table_moved (tfl_moved ..) ?_;walk_at "W";refine SW.iLen (.inl (SqL.of hld')) ?_;rw[lseq];refine⟨_,_,rfl,rfl,dx',_,hp',by show 6 < 1000;decide,?_⟩
 rw[put_moved];have emv:(mid f m M (due pc M)).mv=M.mv:=by unfold mid;cases M.el <;> rfl
 have fr5:∀ o,SW.Fr (fun b=>b=p) H' (upd H' p o):=fun o b u nb e=>by rw[upd_ne nb];exact e
 have nt5:∀ b xs,H' b=some (.tup xs) -> ¬ b=p:=fun b xs e=>ne_of e hp' (by intro z;cases z)
 have X5:TbX C CT (upd H' p (.ins CT dx' (tfl t' pc v' (((mid f m M (due pc M)).mv:Int)+(due pc M:Nat)) n' tc))) p f m pc { mid f m M (due pc M)with mv:=M.mv+due pc M } tc t' n' v' FN' FE':=
  ⟨⟨dx',by rw[upd_same,emv];rfl⟩,fr5 _ _ _ (nt5 _ _ X'.mx) X'.mx,X'.bm,X'.nw.keep (fr5 _) (fun b hb z=>X'.np.1 (z ▸ hb)) nt5,X'.el.keep (fr5 _) (fun b hb z=>X'.np.2 (z ▸ hb)) nt5,X'.ne,X'.np⟩
 have S5:Tb C CT (upd H' p (.ins CT dx' (tfl t' pc v' (((mid f m M (due pc M)).mv:Int)+(due pc M:Nat)) n' tc))) p f m pc { mid f m M (due pc M)with mv:=M.mv+due pc M } tc F':=⟨t',n',v',FN',FE',X5,hF'⟩;have npl:lr≠p:=fun z=>nlr (z ▸ S'.self);have npd:ld≠p:=fun z=>nld' (z ▸ S'.self);have hlr5:=fr5 (.ins CT dx' (tfl t' pc v' (((mid f m M (due pc M)).mv:Int)+(due pc M:Nat)) n' tc)) _ _ npl hlr';have hld5:=fr5 (.ins CT dx' (tfl t' pc v' (((mid f m M (due pc M)).mv:Int)+(due pc M:Nat)) n' tc)) _ _ npd hld';have fr05:SW.Fr F' H' (upd H' p (.ins CT dx' (tfl t' pc v' (((mid f m M (due pc M)).mv:Int)+(due pc M:Nat)) n' tc))):=fun b o nb e=>fr5 _ b o (fun z=>nb (z ▸ S'.self)) e;generalize upd H' p (.ins CT dx' (tfl t' pc v' (((mid f m M (due pc M)).mv:Int)+(due pc M:Nat)) n' tc))=H5 at *;walk_at "W";refine wT S5 nt_end_move ?_;walk_at "W";refine SW.wTEnd S5 fun H6 F6 S6 g6 k6=>?_;rw[endM_go]at S6;have hlr6:=k6 _ _ nlr hlr5;have hld6:=k6 _ _ nld' hld5;walk_at "W";refine wT S6 nt_stands_on_elder ?_;walk_at "W";refine SW.wTStands S6 ?_;walk_at "W";have hrl:(rch f m M (due pc M)).length<=4000:=by
  unfold rch;cases e:M.el with
  | none=>exact Nat.zero_le _
  | some EE=>
    obtain⟨PE',sE,hm,_,_⟩:=T.el EE e;have hdl:=due_le (pc:=pc) e hm;have:=reach_tot (f:=f) (m:=m) (n:=M.nw.length) (due pc M) EE M.nw M.mv hdl;have ec:cnt M=tot EE+tot M.nw:=by unfold SW.cnt;rw[e]
    have hcnt:=hcnt.resolve_right (fun z=>by rw[e]at z;cases z)
    show(reach f m M.nw.length EE M.mv (due pc M)).length<=4000;omega
 -- the last row,whatever is asked
 have last:∀ z:Int,z=(if standsE f m (goOn f m pc M) k=true then 1 else 0) ->
  sFld K (tVar 0) (tOp (rI0 fun i j=>V.int (i+j)) (tOp (rI0 fun i j=>V.int (i+j)) (tCB (fun xs H Q=>∃ p ys,xs=[V.ref p]/\(SqL K H p ys∨SqT K H p ys)/\Q (.int ys.length) H) (tCons (tVar 2) tNil))
   (tCB (fun xs H Q=>∃ a S n,xs=[V.ref a]/\H a=some (.set S n)/\Q (.int (n:Nat)) H) (tCons (tCB (fun xs H Q=>∃ l ns,xs=[V.ref l]/\SqL K H l (List.map V.int ns)/\List.length ns+1 < 4096/\true=true /\ ∀ a S,H a=none->Q (.ref a) (upd H a (.set S (nDist ns)))) (tCons (tVar 3) tNil)) tNil))) (tVar 5)) "touches"
  { nx:=fun _ H'=>Q .non H',rt:=Q } [some (.ref p),some (.int k),some (.ref ld),some (.ref lr),v4,some (.int z)] H6:=fun z hz=>by
  walk_at "W";refine SW.iLen (.inl (SqL.of hld6)) ?_;rw[lseq];walk_at "W";refine⟨lr,_,rfl,SqL.of hlr6,by rw[List.length_cons];omega,rfl,fun a SS ha=>?_⟩
  walk_at "W";refine⟨a,_,_,rfl,upd_same,?_⟩;walk_at "W";have s7:Same H6 (upd H6 a (.set SS (nDist (((plc f m M.nw.length k:Nat):Int)::rch f m M (due pc M))))):=Same.new ha;have S7:=S6.same s7;obtain⟨t7,n7,v7,FN7,FE7,X7,hF7⟩:=id S7;obtain⟨dx7,hp7⟩:=X7.ob;refine SW.iSFld hp7 g.cl_Table g.n_Table_touches (by show 6 < 1000;decide) ?_
  rw[put_touches];have fr8:∀ o,SW.Fr (fun b=>b=p) (upd H6 a (.set SS (nDist (((plc f m M.nw.length k:Nat):Int)::rch f m M (due pc M))))) (upd (upd H6 a (.set SS (nDist (((plc f m M.nw.length k:Nat):Int)::rch f m M (due pc M))))) p o):=fun o b u nb e=>by rw[upd_ne nb];exact e
  have nt8:∀ b xs,upd H6 a (.set SS (nDist (((plc f m M.nw.length k:Nat):Int)::rch f m M (due pc M)))) b=some (.tup xs) -> ¬ b=p:=fun b xs e=>ne_of e hp7 (by intro z;cases z)
  have e8:((due pc M:Nat):Int)+((nDist (((plc f m M.nw.length k:Nat):Int)::rch f m M (due pc M)):Nat):Int)+z=((tch f m pc M k:Nat):Int):=by
   rw[tch_eq,hz];split <;> simp <;> omega
  refine q _ F6 ⟨t7,n7,v7,FN7,FE7,⟨⟨dx7,by rw[upd_same];exact congrArg (fun w=>some (HO.ins CT dx7 (tfl t7 pc v7 (goOn f m pc M).mv n7 w))) e8⟩,fr8 _ _ _ (nt8 _ _ X7.mx) X7.mx,X7.bm,X7.nw.keep (fr8 _) (fun b hb z=>X7.np.1 (z ▸ hb)) nt8,X7.el.keep (fr8 _) (fun b hb z=>X7.np.2 (z ▸ hb)) nt8,X7.ne,X7.np⟩,hF7⟩ ?_ ?_
  · intro b hb
    have tr:∀ b,H2 b=none->H b=none:=fun b hb=>s1.free (s2.free hb);rcases g6 b hb with z | z
    · rcases g' b z with z | z
      · exact .inl z
      exact .inr (tr b z)
    by_cases hFb:F b
    · exact .inl hFb
    refine .inr (tr b ?_);by_cases hb2:b=lr
    · rw[hb2,hlr5]at z;cases z
    cases eb:H2 b with
    | none=>rfl
    | some o=>
      have nF'b:¬ F' b:=fun y=>by
       rcases g' b y with y | y
       · exact hFb y
       rw[y]at eb;cases eb
      rw[fr05 _ _ nF'b (k' _ _ (fun y=>y.elim hFb hb2) eb)]at z;cases z
  intro b o nb eb;have e2:=s2 _ _ (s1 _ _ eb);have nblr:b≠lr:=fun z=>by rw[z,lrn]at eb;cases eb
  have nF'b:¬ F' b:=fun y=>by
   rcases g' b y with y | y
   · exact nb y
   rw[y]at e2;cases e2
  have nF6b:¬ F6 b:=fun y=>by
   rcases g6 b y with y | y
   · exact nF'b y
   rw[fr05 _ _ nF'b (k' _ _ (fun y=>y.elim nb nblr) e2)]at y;cases y
  exact fr8 _ _ _ (fun z=>nF6b (z ▸ S6.self)) (s7 _ _ (k6 _ _ nF'b (fr05 _ _ nF'b (k' _ _ (fun y=>y.elim nb nblr) e2))))
 cases es:standsE f m (goOn f m pc M) k with
 | true=>
   refine iteT ?_;walk_at "W1";exact last 1 (by rw[es];rfl)
 | false=>
   refine iteF ?_;walk_at "W1";exact last 0 (by rw[es];rfl)
theorem q93_(d:Dm K CT "look" "Table.look" z17_ ["self","key"])(g:Gs K mg C CT)(q69_:Mt P w K mg base CT "go_on" 6 ["self","key"] (spTGo C CT))(q72_:Mt P w K mg base CT "shelf_with" 5 ["self","key"] (spTWith C CT))(q66_:Mt P w K mg base CT "begin_move" 5 ["self"] (spTBegin C CT))(q59_:Mt P w K mg base C "look" 4 ["self","key"] (spSLook C)):Mt P w K mg base CT "look" 7 ["self","key"] (spTLook C CT):=by
 refine d.mt z76_ (fun vs H Q E h=>?_) (fun f cdv A outer s H vs Q E hr h=>?_)
 · obtain⟨p,k,f,m,pc,M,tc,F,rfl,_⟩:=h
   rfl
 obtain⟨p,k,f,m,pc,M,tc,F,rfl,S,T,hpc,hcnt,q⟩:=h;obtain⟨T1,lk,ct⟩:=goOn_ok (pc:=pc) T;rw[← lk k]at q;refine⟨_,(B.scons (B.expr (B.meth (B.v 0) g.cl_Table q69_ hr.up (B.cons (B.v 1) B.nil)))
  (B.scons (B.set 2 z76_.nd (B.meth (B.meth (B.v 0) g.cl_Table q72_ hr.up (B.cons (B.v 1) B.nil)) g.cl_Shelf q59_ hr.up (B.cons (B.v 1) B.nil)))
  (B.scons (B.expr (B.meth0 (B.v 0) g.cl_Table q66_ hr.up))
  (B.sone (B.ret (B.v 2)))))),?_⟩
 walk_at "W";refine wT S nt_go_on ?_;walk_at "W";refine SW.wTGo S T hpc (.inl hcnt) fun H1 F1 S1 g1 k1=>?_;obtain⟨t,n,v,FN,FE,X,hF⟩:=id S1;obtain⟨dx,hp⟩:=X.ob;have fin:∀(o:Option Int),o=tLook f m (goOn f m pc M) k ->
  tSeq (tDrop (tMeth CT "begin_move" (spTBegin C CT) [] E0 (tVar 0) tNil)) (tRet (tVar 2)) { nx:=fun _ H'=>Q .non H',rt:=Q } [some (.ref p),some (.int k),some (oV o)] H1:=fun o ho=>by
  walk_at "W";refine wT S1 nt_begin_move ?_;walk_at "W";refine SW.wTBegin S1 T1.sz fun H3 F3 S3 g3 k3=>?_;walk_at "W";rw[ho];refine q H3 F3 S3 (Gr.trans g1 k1 g3) fun b u nb e=>?_;have h2:=k1 b u nb e;exact k3 _ _ (fun z=>by
   rcases g1 b z with z | z
   · exact nb z
   rw[z]at e;cases e) h2
 walk_at "W";refine wT S1 nt_shelf_with ?_;walk_at "W";refine SW.wTWith X (fun EE e hne=>?_) (fun hno=>?_)
 · have hel:=X.el
   rw[e]at hel;obtain⟨ea,rfl,SE⟩:=hel;refine wS SE ⟨by decide +kernel,by decide +kernel,by decide +kernel⟩ ?_
   walk_at "W0";refine wSLook SE ?_;walk_at "W1";refine fin _ ?_;exact tLook_el e hne
 refine wS X.nw ⟨by decide +kernel,by decide +kernel,by decide +kernel⟩ ?_
 walk_at "W0";refine wSLook X.nw ?_;walk_at "W1";refine fin _ ?_;exact tLook_nw hno
theorem q42_(d:Dfn K mg "shelf_of" z56_ ["rows","mixer"])(g:Gs K mg C CT)(q55_:Mkr P w K mg base C "Shelf" 3 ["self","size","mixer"] (spSInit C))(q62_:Mt P w K mg base C "put" 4 ["self","key","worth"] (spSPut C)):Fn P w K mg base "shelf_of" 5 ["rows","mixer"] (spShelfOf K C):=by
 refine d.fn z115_ (fun vs H Q E h=>?_) (fun f cdv A outer s H vs Q E hr h=>?_)
 · obtain⟨a,t,f,m,R,rfl,_⟩:=h
   rfl
 obtain⟨a,t,f,m,R,rfl,⟨xs,hx,px⟩,hs,htot,ht,bf,q⟩:=h;have lx:xs.length=R.length:=Paired.length px;refine⟨_,(B.scons (B.set 2 z115_.nd (B.make q55_ hr.up (B.cons (B.cB call_len_seq g.b_len SW.b_len (B.cons (B.v 0) B.nil)) (B.cons (B.v 1) B.nil))))
  (B.scons (B.fors (B.itup (B.v 0)) (B.gname (i:=3) z115_.nd) (B.sone (B.fors (B.itup (B.v 3)) (B.gtup (B.gcons (B.gname (i:=4) z115_.nd) (B.gcons (B.gname (i:=5) z115_.nd) B.gnil))) (B.sone (B.expr (B.meth (B.v 2) g.cl_Shelf q62_ hr.up (B.cons (B.v 4) (B.cons (B.v 5) B.nil))))))))
  (B.sone (B.ret (B.v 2))))),?_⟩
 walk_at "W";refine SW.iLen (.inr hx) ?_;walk_at "W";rw[lx];refine wShelf (n:=((R.length:Nat):Int)) ht bf (by omega) (by simpa using hs) fun p H1 F1 S1 n1 s1=>?_
 have S1:Sh C H1 p f m (List.replicate R.length []) F1:=S1;have keepT:∀{H':Hp}{b:Addr}{ys:List V},(∀ c o,H c=some o->H' c=some o)->SqT K H b ys->SqT K H' b ys:=fun k hb=>by
  rcases hb with (z | ⟨o,z⟩) | z
  · exact .inl (.inl (k _ _ z))
  · exact .inl (.inr ⟨o,k _ _ z⟩)
  exact .inr z
 have old:∀{H':Hp},SW.Fr F1 H1 H' -> ∀ c o,H c=some o->H' c=some o:=fun k c o e=>k c o (fun z=>by rw[n1 c z]at e;cases e) (s1 c o e)
 walk_at "W";refine⟨a,rfl,⟨_,keepT s1 hx⟩,?_⟩;refine for_tup (xs:=xs) (fun i σ H'=>∃ v3 v4 v5,σ=[some (.ref a),some (.ref t),some (.ref p),v3,v4,v5]/\Sh C H' p f m ((R.take i).foldl (fun N r=>putAll f m N r) (List.replicate R.length [])) F1/\SW.Fr F1 H1 H'/\tot ((R.take i).foldl (fun N r=>putAll f m N r) (List.replicate R.length []))<=tot (R.take i)) ?_ (fun i σ H' _ z=>z.elim fun _ z=>z.elim fun _ z=>z.elim fun _ z=>keepT (old z.2.2.1) hx) ?_ ?_
 · exact⟨none,none,none,rfl,S1,Fr.refl _ _,by rw[List.take_zero];show tot (List.replicate R.length [])<=0;rw[tot_rep];exact Nat.le_refl _⟩
 · rintro i x σ H' hxi ⟨v3,v4,v5,rfl,S',k',ht'⟩
   have hi:i < R.length:=by
    have:=(List.getElem?_eq_some_iff.mp hxi).1;omega
   obtain⟨b,ys,rfl,hb,pb⟩:RowT K H x R[i]:=by
    have key:∀{xs:List V}{R:MRows}{i:Nat}{x:V} (hi:i < R.length),Paired (RowT K H) xs R->xs[i]?=some x->RowT K H x R[i]:=by
     intro xs R i x hi pp
     induction pp generalizing i with
     | nil=>intro h;simp at h
     | cons h t ih=>
       intro e;cases i with
       | zero=>simp at e;subst e;exact h
       | succ i=>exact ih (by simpa using hi) (by simpa using e)
    exact key hi px hxi
   have ly:ys.length=R[i].length:=Paired.length pb;have etk:R.take (i+1)=R.take i++[R[i]]:=by rw[List.take_add_one,List.getElem?_eq_getElem hi];rfl
   have ett:tot (R.take (i+1))=tot (R.take i)+R[i].length:=by
    rw[etk];unfold tot;rw[List.map_append,List.sum_append];simp
   have tle:tot (R.take (i+1))<=tot R:=by
    have:∀(l:MRows) (j:Nat),tot (l.take j)<=tot l:=by
     intro l
     induction l with
     | nil=>intro j;rw[List.take_nil];exact Nat.le_refl _
     | cons a l ih=>
       intro j;cases j with
       | zero=>exact Nat.zero_le _
       | succ j=>
         show a.length+tot (l.take j)<=a.length+tot l;have:=ih j;omega
    exact this R (i+1)
   walk_at "W";refine⟨b,rfl,⟨_,keepT (old k') hb⟩,?_⟩;refine for_tup (xs:=ys) (fun j σ H''=>∃ v4 v5,σ=[some (.ref a),some (.ref t),some (.ref p),some (.ref b),v4,v5]/\Sh C H'' p f m (putAll f m ((R.take i).foldl (fun N r=>putAll f m N r) (List.replicate R.length [])) (R[i].take j)) F1/\SW.Fr F1 H1 H'') ⟨v4,v5,rfl,S',k'⟩ (fun j σ H'' _ ⟨_,_,_,_,k''⟩=>keepT (old k'') hb) ?_ ?_
   · rintro j y σ H'' hyj ⟨v4,v5,rfl,S'',k''⟩
     have hj:j < R[i].length:=by
      have:=(List.getElem?_eq_some_iff.mp hyj).1;omega
     obtain⟨c,rfl,hc⟩:PrT K H y R[i][j]:=by
      have key:∀{xs:List V}{R:MRow}{i:Nat}{x:V} (hi:i < R.length),Paired (PrT K H) xs R->xs[i]?=some x->PrT K H x R[i]:=by
       intro xs R i x hi pp
       induction pp generalizing i with
       | nil=>intro h;simp at h
       | cons h t ih=>
         intro e;cases i with
         | zero=>simp at e;subst e;exact h
         | succ i=>exact ih (by simpa using hi) (by simpa using e)
      exact key hj pb hyj
     refine⟨c,_,rfl,keepT (old k'') hc,rfl,_,_,rfl,_,_,rfl,rfl,?_⟩;walk_at "W";refine wS S'' ⟨by decide +kernel,by decide +kernel,by decide +kernel⟩ ?_
     walk_at "W";refine wSPut S'' ?_ fun H3 S3 K3=>?_
     · have h1:=tot_putAll_le (f:=f) (m:=m) (r:=R[i].take j) S'.pos
       have h2:(R[i].take j).length<=R[i].length:=by rw[List.length_take];exact Nat.min_le_right _ _
       omega
     walk_at "W";refine⟨_,_,rfl,?_,k''.trans K3⟩;rw[putAll_take (List.getElem?_eq_getElem hj)];exact S3
   rintro σ H'' ⟨v4,v5,rfl,S'',k''⟩;have e9:R[i].take ys.length=R[i]:=List.take_of_length_le (by omega)
   rw[e9]at S'';have ef:(R.take (i+1)).foldl (fun N r=>putAll f m N r) (List.replicate R.length [])=putAll f m ((R.take i).foldl (fun N r=>putAll f m N r) (List.replicate R.length [])) R[i]:=by rw[etk,List.foldl_append];rfl
   refine⟨_,_,_,rfl,by rw[ef];exact S'',k'',?_⟩
   rw[ef];have h1:=tot_putAll_le (f:=f) (m:=m) (r:=R[i]) S'.pos;omega
 rintro σ H' ⟨v3,v4,v5,rfl,S',k',_⟩;rw[List.take_of_length_le (by omega)]at S'
 walk_at "W";exact q p H' F1 S' n1 (old k')
theorem q92_(d:Dk K mg CT "Table" "Table.__init__" z11_ ["self","mixer","pace","state"])(g:Gs K mg C CT)(q42_:Fn P w K mg base "shelf_of" 5 ["rows","mixer"] (spShelfOf K C)):Mkr P w K mg base CT "Table" 6 ["self","mixer","pace","state"] (spTInit C CT):=by
 refine d.mk' z70_ (fun vs H Q E h=>?_) (fun f cdv A outer s H vs Q E hr h=>?_)
 · obtain⟨x,t,dx,f,m,pc,v,M,rfl,_⟩:=h
   rfl
 obtain⟨x,t,dx,f,m,pc,v,M,rfl,hx,ht,bf,T,hcnt,hv,q⟩:=h;obtain⟨aE,bE,hE,tE,rE⟩:=g.c_EMPTY;have ntx:t≠x:=ne_of ht hx (by intro z;cases z)
 refine⟨_,(B.scons (B.set 4 z70_.nd (B.ifx (B.tcmp op_isN (B.v 3) B.non) (B.gref hE) (B.v 3)))
  (B.scons (B.sfld (B.v 0) (B.v 1))
  (B.scons (B.sfld (B.v 0) (B.v 2))
  (B.scons (B.sfld (B.v 0) (B.ifx (B.tcmp op_isN (B.ix ix_tup (B.v 4) B.int) B.non) B.non (B.fn q42_ hr.up (B.cons (B.ix ix_tup (B.v 4) B.int) (B.cons (B.v 1) B.nil)))))
  (B.scons (B.sfld (B.v 0) (B.ix ix_tup (B.v 4) B.int))
  (B.scons (B.sfld (B.v 0) (B.fn q42_ hr.up (B.cons (B.ix ix_tup (B.v 4) B.int) (B.cons (B.v 1) B.nil))))
  (B.sone (B.sfld (B.v 0) B.int)))))))),?_⟩
 walk_at "W";refine⟨rfl,?_⟩;walk_at "W";have key:∀ Q':VK,(∀(aL:Addr) (e:V) (b:Addr),SqT K H aL [e,.int (M.mv:Nat),.ref b]->ElT K H e M.el->RowsT K H b M.nw->Q' (.ref aL) H) ->
  (if decide (v=.non)=true then tC (.ref aE) [some (.ref x),some (.ref t),some (.int pc),some v,none] H Q' else tVar 3 [some (.ref x),some (.ref t),some (.int pc),some v,none] H Q'):=fun Q' h=>by
  rcases hv with ⟨rfl,rfl⟩ | ⟨a,e,w',rfl,ha,he,hw⟩
  · exact iteT (h aE .non bE (tE _) rfl (rE _))
  obtain⟨b,rfl,hb⟩:=hw.rowsT (K:=K);exact iteF (SW.wVar rfl (h a e b (SqT.of ha) he.elT hb))
 refine key _ fun aL e b hL hEl hN=>?_;clear key;have L0:(putF "mixer" (V.ref t) []).length<=1:=putF_len ..;have L1:(putF "pace" (V.int pc) (putF "mixer" (V.ref t) [])).length<=2:=Nat.le_trans (putF_len ..) (Nat.succ_le_succ L0);have L2:∀ ve,(putF "elder" ve (putF "pace" (V.int pc) (putF "mixer" (V.ref t) []))).length<=3:=fun ve=>Nat.le_trans (putF_len ..) (Nat.succ_le_succ L1);have L3:∀ ve z,(putF "moved" z (putF "elder" ve (putF "pace" (V.int pc) (putF "mixer" (V.ref t) [])))).length<=4:=fun ve z=>Nat.le_trans (putF_len ..) (Nat.succ_le_succ (L2 ve));have L4:∀ ve z y,(putF "newer" y (putF "moved" z (putF "elder" ve (putF "pace" (V.int pc) (putF "mixer" (V.ref t) []))))).length<=5:=fun ve z y=>Nat.le_trans (putF_len ..) (Nat.succ_le_succ (L3 ve z));walk_at "W";refine SW.iSFld hx g.cl_Table g.n_Table_mixer (by show 0 < 1000;decide) ?_
 walk_at "W";refine SW.iSFld upd_same g.cl_Table g.n_Table_pace (by omega) ?_
 rw[upd_upd];have fr0:∀ o b u,b≠x->H b=some u->upd H x o b=some u:=fun o b u nb e=>by rw[upd_ne nb];exact e
 walk_at "W";refine⟨aL,_,_,_,rfl,rfl,hL.but hx (fr0 _),rfl,?_⟩;walk_at "W";refine⟨rfl,?_⟩;walk_at "W";have totN:tot M.nw<=5000:=by unfold SW.cnt at hcnt;omega
 have key2:∀ Q':VK,(∀(ve:V) (H1:Hp) (FE:Addr->Prop),ElAt C H1 f m ve M.el FE->(∀ b,FE b->H b=none/\b≠x)->H1 x=some (.ins CT dx (putF "pace" (.int pc) (putF "mixer" (.ref t) [])))->(∀ b o,b≠x->H b=some o->H1 b=some o)->Q' ve H1) ->
  (if decide (e=.non)=true then tC .non [some (.ref x),some (.ref t),some (.int pc),some v,some (.ref aL)] (upd H x (.ins CT dx (putF "pace" (.int pc) (putF "mixer" (.ref t) [])))) Q'
   else tCall (spShelfOf K C) [] E0 (tCons (tOp (rIxT K) (tVar 4) (tC (.int 0))) (tCons (tVar 1) tNil)) [some (.ref x),some (.ref t),some (.int pc),some v,some (.ref aL)] (upd H x (.ins CT dx (putF "pace" (.int pc) (putF "mixer" (.ref t) [])))) Q'):=fun Q' h=>by
  cases z:M.el with
  | none=>
    rw[z]at hEl h;obtain rfl:e=.non:=hEl;exact iteT (h .non _ (fun _=>False) ⟨rfl,fun _ z=>z⟩ (fun _ z=>z.elim) upd_same (fr0 _))
  | some EE=>
    obtain⟨PE',sE,_,_,_⟩:=T.el EE z;have totE:tot EE<=5000:=by unfold SW.cnt at hcnt;rw[z]at hcnt;have h2:tot EE+tot M.nw<=5000:=hcnt;omega
    rw[z]at hEl h;obtain⟨ea,rfl,hr'⟩:=hEl;refine iteF ?_;walk_at "W";refine⟨aL,_,_,_,rfl,rfl,hL.but hx (fr0 _),rfl,?_⟩;walk_at "W";refine⟨ea,t,f,m,EE,rfl,hr'.but hx (fr0 _),sE,totE,fr0 _ _ _ ntx ht,bf,fun sp H1 F1 S1 n1 s1=>?_⟩;rw[laid_eq PE']at S1;refine h (.ref sp) H1 F1 ⟨sp,rfl,S1⟩ (fun b hb=>?_) (s1 _ _ upd_same) fun b o nb e=>s1 _ _ (fr0 _ _ _ nb e);have h1:=n1 b hb;by_cases z:b=x
    · subst z;rw[upd_same]at h1;cases h1
    rw[upd_ne z]at h1;exact⟨h1,z⟩
 refine key2 _ fun ve H1 FE hE1 nFE hx1 fr1=>?_;clear key2;have fr2:∀ o b u,b≠x->H b=some u->upd H1 x o b=some u:=fun o b u nb e=>by rw[upd_ne nb];exact fr1 b u nb e
 walk_at "W";refine SW.iSFld hx1 g.cl_Table g.n_Table_elder (by omega) ?_
 walk_at "W";refine⟨aL,_,_,_,rfl,rfl,hL.but hx (fr2 _),rfl,?_⟩;walk_at "W";refine SW.iSFld upd_same g.cl_Table g.n_Table_moved (by have:=L2 ve;omega) ?_
 rw[upd_upd];walk_at "W";refine⟨aL,_,_,_,rfl,rfl,hL.but hx (fr2 _),rfl,?_⟩;walk_at "W";refine⟨b,t,f,m,M.nw,rfl,hN.but hx (fr2 _),T.sz,totN,fr2 _ _ _ ntx ht,bf,fun sp H2 F2 S2 n2 s2=>?_⟩;rw[laid_eq T.nw]at S2;have hx2:=s2 _ _ (upd_same (H:=H1) (a:=x) (o:=.ins CT dx (putF "moved" (.int (M.mv:Nat)) (putF "elder" ve (putF "pace" (.int pc) (putF "mixer" (.ref t) []))))));have n2':∀ b,F2 b->H1 b=none/\b≠x:=fun b hb=>by
  have h1:=n2 b hb;by_cases z:b=x
  · subst z;rw[upd_same]at h1;cases h1
  rw[upd_ne z]at h1;exact⟨h1,z⟩
 have n2'':∀ b,F2 b->H b=none:=fun b hb=>by
  obtain⟨h1,nb⟩:=n2' b hb;cases e:H b with
  | none=>rfl
  | some o=>rw[fr1 b o nb e]at h1;cases h1
 walk_at "W";refine SW.iSFld hx2 g.cl_Table g.n_Table_newer (by have:=L3 ve (.int (M.mv:Nat));omega) ?_
 walk_at "W";refine SW.iSFld upd_same g.cl_Table g.n_Table_touches (by have:=L4 ve (.int (M.mv:Nat)) (.ref sp);omega) ?_
 rw[upd_upd,tfl_mk];have fr3:∀ o,SW.Fr (fun b=>b=x) H2 (upd H2 x o):=fun o b u nb e=>by rw[upd_ne nb];exact e
 have nt3:∀ b xs,H2 b=some (.tup xs) -> ¬ b=x:=fun b xs e=>ne_of e hx2 (by intro z;cases z)
 have fr4:∀ o,SW.Fr (fun b=>b=x) H1 (upd H2 x o):=fun o b u nb e=>by rw[upd_ne nb];exact s2 _ _ (by rw[upd_ne nb];exact e)
 have nt4:∀ b xs,H1 b=some (.tup xs) -> ¬ b=x:=fun b xs e=>ne_of e hx1 (by intro z;cases z)
 have fr5:∀ o b u,b≠x->H b=some u->upd H2 x o b=some u:=fun o b u nb e=>fr4 o b u nb (fr1 b u nb e);refine q _ (fun b=>b=x∨F2 b∨FE b) ⟨t,sp,ve,F2,FE,⟨⟨dx,upd_same⟩,fr5 _ _ _ ntx ht,bf,S2.keep (fr3 _) (fun b hb=>(n2' b hb).2) nt3,hE1.keep (fr4 _) (fun b hb=>(nFE b hb).2) nt4,fun b hb hf=>?_,⟨fun z=>(n2' x z).2 rfl,fun z=>(nFE x z).2 rfl⟩⟩,fun b=>Iff.rfl⟩ (fun b hb=>?_) (fr5 _)
 · obtain⟨o',e',_⟩:=hE1.live hb
   rw[(n2' b hf).1]at e';cases e'
 rcases hb with z | z | z
 · exact .inl z
 · exact .inr (n2'' b z)
 exact .inr (nFE b z).1
theorem q40_(d:Dfn K mg "rows_of" z55_ ["shelf"])(g:Gs K mg C CT)(q65_:Mt P w K mg base C "size" 1 ["self"] (spSSize C))(q63_:Mt P w K mg base C "row" 3 ["self","place"] (spSRow C)):Fn P w K mg base "rows_of" 4 ["shelf"] (spRowsOf C):=by
 refine d.fn z114_ (fun vs H Q E h=>?_) (fun f cdv A outer s H vs Q E hr h=>?_)
 · obtain⟨p,f,m,R,F,rfl,_⟩:=h
   rfl
 obtain⟨p,f,m,R,F,rfl,S,q⟩:=h;have htop:=S.top;refine⟨_,(B.sone (B.ret (B.cT call_tuple_of g.b_tuple SW.b_tuple (B.cons (SW.B.comp [0] ["place","shelf"] (SW.CompScope.of rfl rfl (by decide +kernel) (by decide +kernel) rfl ⟨rfl,trivial⟩ rfl rfl rfl) (by decide +kernel) (B.irange g.b_range (B.cons (B.meth0 (B.v 0) g.cl_Shelf q65_ hr.up) B.nil)) (fun _ _ _ _=>(B.cT (SW.call_tupleK K) g.b_tuple SW.b_tuple (B.cons (B.meth (B.v 1) g.cl_Shelf q63_ hr.up (B.cons (B.v 0) B.nil)) B.nil)))) B.nil)))),?_⟩
 walk_at "W";refine wS S ⟨by decide +kernel,by decide +kernel,by decide +kernel⟩ ?_
 walk_at "W";refine wSSize S ?_;walk_at "W";refine⟨R.length,rfl,by omega,by omega,fun D hD=>?_⟩
 refine comp_rangeU (fun i σ' H'=>∃(xs:List V) (v:Option V),Same H H' /\ σ'=[v,some (.ref p)]/\xs.length=i/\H' D=some (.lst xs)/\Paired (RowU H') xs (R.take i)) ⟨[],none,Same.new hD,rfl,rfl,upd_same,.nil⟩ ?_ ?_
 · rintro i σ' H' hi ⟨xs,v,s',rfl,hl,hD',pr⟩
   have S':=S.same s';walk_at "W";refine wS S' ⟨by decide +kernel,by decide +kernel,by decide +kernel⟩ ?_
   walk_at "W";refine wSRow S' (by omega) (by omega) fun l ys H2 s2 nl hl2 p2=>?_
   walk_at "W";refine⟨l,_,rfl,.inl ⟨SqL.of hl2,fun t ht=>?_⟩⟩;have hD2:=s2 _ _ hD';have s3:Same H2 (upd H2 t (.tup ys)):=Same.new ht;have hD3:=s3 _ _ hD2;have e0:(0+(i:Int)).toNat=i:=by omega
   rw[e0]at p2;refine CN.mk hi hD3 (by
    have:sizeLine=16777216:=sizeLine_eq
    omega) ⟨xs++[.ref t],_,fun b o e=>?_,rfl,by rw[List.length_append,hl];rfl,upd_same,?_⟩
   · rw[upd_ne (ne_of_none e hD)];exact s3 _ _ (s2 _ _ (s' _ _ e))
   have kt:KeepT (upd H2 t (.tup ys)) (upd (upd H2 t (.tup ys)) D (.lst (xs++[.ref t]))):=KeepT.upd fun zs e=>by rw[hD3]at e;cases e
   rw[List.take_add_one,getD_get hi];refine paired_snoc (Paired.mapP pr fun _ _ z=>z.keep (fun a xs e=>kt _ _ (s3 _ _ (s2 _ _ e)))) ?_;exact⟨t,ys,rfl,kt _ _ upd_same,p2.keep fun a xs e=>kt _ _ (s3 _ _ e)⟩
 rintro σ' H' ⟨xs,v,s',rfl,hl,hD',pr⟩;walk_at "W";refine⟨D,_,rfl,.inl ⟨SqL.of hD',fun l hl=>?_⟩⟩;have s2:Same H' (upd H' l (.tup xs)):=Same.new hl;rw[show((R.length:Nat):Int).toNat=R.length from rfl,List.take_length]at pr;exact q _ _ (s'.trans s2) ⟨l,xs,rfl,upd_same,Paired.mapP pr fun _ _ z=>z.keep (KeepT.same s2)⟩
theorem q96_(d:Dm K CT "state" "Table.state" z25_ ["self"])(g:Gs K mg C CT)(q40_:Fn P w K mg base "rows_of" 4 ["shelf"] (spRowsOf C)):Mt P w K mg base CT "state" 5 ["self"] (spTState C CT):=by
 refine d.mt z84_ (fun vs H Q E h=>?_) (fun f cdv A outer s H vs Q E hr h=>?_)
 · obtain⟨p,f,m,pc,M,tc,F,rfl,_⟩:=h
   rfl
 obtain⟨p,f,m,pc,M,tc,F,rfl,S,q⟩:=h;obtain⟨t,n,v,FN,FE,X,hF⟩:=id S;obtain⟨dx,hp⟩:=X.ob;have hel:=X.el;refine⟨_,(B.scons (B.set 1 z84_.nd (B.ifx (B.tcmp op_isN (B.fld (B.v 0)) B.non) B.non (B.fn q40_ hr.up (B.cons (B.fld (B.v 0)) B.nil))))
  (B.sone (B.ret (B.tup (B.cons (B.v 1) (B.cons (B.fld (B.v 0)) (B.cons (B.fn q40_ hr.up (B.cons (B.fld (B.v 0)) B.nil)) B.nil))))))),?_⟩
 walk_at "W";refine SW.iFld hp g.cl_Table g.n_Table_elder (tfl_elder ..) ?_;walk_at "W";refine⟨rfl,?_⟩;walk_at "W";have three:(3:Nat)<=sizeLine:=by decide
 cases e:M.el with
 | none=>
   rw[e]at hel;obtain⟨rfl,_⟩:=hel;refine iteT ?_;walk_at "W";refine SW.iFld hp g.cl_Table g.n_Table_moved (tfl_moved ..) ?_;walk_at "W";refine SW.iFld hp g.cl_Table g.n_Table_newer (tfl_newer ..) ?_;walk_at "W";refine wRowsOf X.nw fun v1 H1 s1 u1=>?_;walk_at "W";refine⟨three,fun a ha=>q _ _ (s1.trans (Same.new ha)) ⟨a,_,_,rfl,upd_same,by rw[e];rfl,u1.keep (KeepT.same (Same.new ha))⟩⟩
 | some EE=>
   rw[e]at hel;obtain⟨ea,rfl,SE⟩:=hel;refine iteF ?_;walk_at "W";refine SW.iFld hp g.cl_Table g.n_Table_elder (tfl_elder ..) ?_;walk_at "W";refine wRowsOf SE fun v0 H0 s0 u0=>?_;have hp0:=s0 _ _ hp;walk_at "W";refine SW.iFld hp0 g.cl_Table g.n_Table_moved (tfl_moved ..) ?_;walk_at "W";refine SW.iFld hp0 g.cl_Table g.n_Table_newer (tfl_newer ..) ?_;walk_at "W";refine wRowsOf (X.nw.same s0) fun v1 H1 s1 u1=>?_;walk_at "W";refine⟨three,fun a ha=>q _ _ ((s0.trans s1).trans (Same.new ha)) ⟨a,_,_,rfl,upd_same,by rw[e];exact u0.keep (KeepT.same (s1.trans (Same.new ha))),u1.keep (KeepT.same (Same.new ha))⟩⟩
theorem q97_(d:Dm K CT "touched" "Table.touched" z26_ ["self"])(g:Gs K mg C CT):Mt P w K mg base CT "touched" 1 ["self"] (spTTouched C CT):=by
 refine d.mt z85_ (fun vs H Q E h=>?_) (fun f cdv A outer s H vs Q E hr h=>?_)
 · obtain⟨p,f,m,pc,M,tc,F,rfl,_⟩:=h
   rfl
 obtain⟨p,f,m,pc,M,tc,F,rfl,S,q⟩:=h;obtain⟨t,n,v,FN,FE,X,hF⟩:=id S;obtain⟨dx,hp⟩:=X.ob;refine⟨_,(B.sone (B.ret (B.fld (B.v 0)))),?_⟩;walk_at "W";exact⟨p,CT,dx,_,_,rfl,hp,g.cl_Table,g.n_Table_touches,tfl_touches ..,q⟩
def spIsSizeB:Sp:=fun vs H Q _=>∃ n:Nat,vs=[.int n]/\Q (.bl (decide (isSize n))) H
theorem inSizesB(n:Nat):inV (V.int n) [.int 4,.int 8,.int 16,.int 32,.int 64,.int 128,.int 256,.int 512,.int 1024,.int 2048,.int 4096]=decide (isSize n):=by
 have e:=inV_intsB (n:Int) [4,8,16,32,64,128,256,512,1024,2048,4096];refine Eq.trans e ?_;rw[Bool.eq_iff_iff,decide_eq_true_iff,decide_eq_true_iff];unfold isSize;simp only[List.mem_cons,List.not_mem_nil,or_false];omega
theorem q44_(d:Dfn K mg "is_size" z36_ ["thing"])(g:Gs K mg C CT)(q12_:Fn P w K mg base "is_whole" 1 ["thing"] spWhole):Fn P w K mg base "is_size" 2 ["thing"] spIsSizeB:=by
 refine d.fn z95_ (fun vs H Q E h=>?_) (fun f cdv A outer s H vs Q E hr h=>?_)
 · obtain⟨n,rfl,_⟩:=h
   rfl
 obtain⟨n,rfl,q⟩:=h;obtain⟨aS,hS,tS⟩:=g.c_SIZES;refine⟨_,(B.sone (B.ret (B.and (B.fn q12_ hr.up (B.cons (B.v 0) B.nil)) (B.one (B.cmpI op_in_seq (B.v 0) (B.gref hS)))))),?_⟩;walk_at "W";refine⟨_,rfl,?_⟩;walk_at "W";refine iteT ?_;walk_at "W";refine⟨aS,_,rfl,.inr (tS _),rfl,by decide,?_⟩
 rw[if_neg Bool.false_ne_true,inSizesB];exact q
def spPlacesR:Sp:=fun vs H Q _=>∃(ve vn:V) (S:Sta),vs=[ve,vn]/\ElV H ve S.el/\RowsV H vn S.nw/\Q (.bl (rightP S)) H
def spMovedR:Sp:=fun vs H Q _=>∃(ve:V) (S:Sta),vs=[ve,.int S.mv]/\ElV H ve S.el/\Q (.bl (rightM S)) H
theorem dec_nat2{a b:Nat}:decide (V.int (a:Int)=V.int (2*(b:Int)))=decide (a=2*b):=by
 rw[Bool.eq_iff_iff,decide_eq_true_iff,decide_eq_true_iff]
 constructor
 · intro z;injection z with z;omega
 intro z;rw[show(a:Int)=2*(b:Int) by omega]
theorem q36_(d:Dfn K mg "has_right_places" z32_ ["elder","newer"])(g:Gs K mg C CT)(q9_:Fn P w K mg base "is_size" 2 ["thing"] spIsSizeB):Fn P w K mg base "has_right_places" 3 ["elder","newer"] spPlacesR:=by
 refine d.fn z91_ (fun vs H Q E h=>?_) (fun f cdv A outer s H vs Q E hr h=>?_)
 · obtain⟨ve,vn,S,rfl,_⟩:=h
   rfl
 obtain⟨ve,vn,S,rfl,he,⟨n,xs,rfl,hn,hr_⟩,q⟩:=h;have hxl:=paired_len hr_;refine⟨_,(B.scons (B.ifs (B.tnot (B.tval (B.fn q9_ hr.up (B.cons (B.cB call_len_seq g.b_len SW.b_len (B.cons (B.v 1) B.nil)) B.nil)))) (B.sone (B.ret B.bl)) B.snil)
  (B.scons (B.ifs (B.tcmp op_isN (B.v 0) B.non) (B.sone (B.ret B.bl)) B.snil)
  (B.sone (B.ret (B.and (B.fn q9_ hr.up (B.cons (B.cB call_len_seq g.b_len SW.b_len (B.cons (B.v 0) B.nil)) B.nil)) (B.one (B.or (B.cmp op_eq (B.cB call_len_seq g.b_len SW.b_len (B.cons (B.v 0) B.nil)) (B.op op_mul B.int (B.cB call_len_seq g.b_len SW.b_len (B.cons (B.v 1) B.nil)))) (B.one (B.cmp op_eq (B.cB call_len_seq g.b_len SW.b_len (B.cons (B.v 1) B.nil)) (B.op op_mul B.int (B.cB call_len_seq g.b_len SW.b_len (B.cons (B.v 0) B.nil)))))))))))),?_⟩
 walk_at "W";refine SW.iLen (.inr (SqT.of hn)) ?_;walk_at "W";refine⟨xs.length,rfl,?_⟩;walk_at "W";rw[hxl];unfold rightP at q;cases h1:decide (isSize S.nw.length)with
 | false=>
   rw[h1]at q;refine iteT ?_;walk_at "W";exact q
 | true=>
   rw[h1]at q;refine iteF ?_;walk_at "W";refine⟨rfl,?_⟩;walk_at "W";obtain⟨el,mv,nw⟩:=S;cases el with
   | none=>
     have he:ve=V.non:=he;subst he;refine iteY rfl ?_;walk_at "W";exact q
   | some E_=>
     obtain⟨a,ys,rfl,ha,hra⟩:=(show RowsV H ve E_ from he);have hyl:=paired_len hra;refine iteNo (fun z=>nomatch z) ?_;walk_at "W";refine SW.iLen (.inr (SqT.of ha)) ?_;walk_at "W";refine⟨ys.length,rfl,?_⟩;walk_at "W";rw[hyl];have q:Q (.bl (decide (isSize E_.length) && (decide (E_.length=2*nw.length) || decide (nw.length=2*E_.length)))) H:=q;cases h2:decide (isSize E_.length)with
     | false=>
       rw[h2]at q;exact iteF q
     | true=>
       rw[h2]at q;refine iteT ?_;walk_at "W";refine SW.iLen (.inr (SqT.of ha)) ?_;walk_at "W";refine SW.iLen (.inr (SqT.of hn)) ?_;walk_at "W";rw[hyl,show xs.length=nw.length from hxl,dec_nat2];cases h3:decide (E_.length=2*nw.length)with
       | true=>
         rw[h3]at q;exact iteT q
       | false=>
         rw[h3]at q;refine iteF ?_;walk_at "W";refine SW.iLen (.inr (SqT.of hn)) ?_;walk_at "W";refine SW.iLen (.inr (SqT.of ha)) ?_;walk_at "W";rw[hyl,show xs.length=nw.length from hxl,dec_nat2];exact q
theorem q30_(d:Dfn K mg "has_right_moved" z31_ ["elder","moved"])(g:Gs K mg C CT):Fn P w K mg base "has_right_moved" 1 ["elder","moved"] spMovedR:=by
 refine d.fn z90_ (fun vs H Q E h=>?_) (fun f cdv A outer s H vs Q E hr h=>?_)
 · obtain⟨ve,S,rfl,_⟩:=h
   rfl
 obtain⟨ve,S,rfl,he,q⟩:=h;unfold rightM at q;refine⟨_,(B.sone (B.ret (B.chain op_le op_lt B.int (B.v 1) (B.ifx (B.tcmp op_isN (B.v 0) B.non) B.int (B.cB call_len_seq g.b_len SW.b_len (B.cons (B.v 0) B.nil)))))),?_⟩;walk_at "W";by_cases h0:0<=S.mv
 · rw[decide_eq_true h0]at q
   refine iteY h0 ?_;walk_at "W";refine⟨rfl,?_⟩;walk_at "W";obtain⟨el,mv,nw⟩:=S;cases el with
   | none=>
     have he:ve=V.non:=he;subst he;refine iteY rfl ?_;walk_at "W";exact q
   | some E_=>
     obtain⟨a,ys,rfl,ha,hra⟩:=(show RowsV H ve E_ from he);have hyl:=paired_len hra;refine iteNo (fun z=>nomatch z) ?_;walk_at "W";refine SW.iLen (.inr (SqT.of ha)) ?_;walk_at "W";rw[hyl];exact q
 rw[decide_eq_false h0]at q;exact iteNo h0 q
def spWholeA:Sp:=fun vs H Q _=>∃(v:V) (d:PyData),vs=[v]/\Any H v d/\Q (.bl (isWhD d)) H
theorem wWholeA{H:Hp}{Q:VK}{E:XK}{v:V}{d:PyData}(h:Any H v d)(q:Q (.bl (isWhD d)) H):spWholeA ([v]++[]) H Q E:=⟨v,d,rfl,h,q⟩
def spInA(lo:Int):Sp:=fun vs H Q _=>∃(v:V) (d:PyData),vs=[v]/\Any H v d/\Q (.bl (isInD lo d)) H
theorem wInA{lo:Int}{H:Hp}{Q:VK}{E:XK}{v:V}{d:PyData}(h:Any H v d)(q:Q (.bl (isInD lo d)) H):spInA lo ([v]++[]) H Q E:=⟨v,d,rfl,h,q⟩
def spPairA:Sp:=fun vs H Q _=>∃(v:V) (d:PyData),vs=[v]/\Any H v d/\Q (.bl (isPairD d)) H
theorem wPairA{H:Hp}{Q:VK}{E:XK}{v:V}{d:PyData}(h:Any H v d)(q:Q (.bl (isPairD d)) H):spPairA ([v]++[]) H Q E:=⟨v,d,rfl,h,q⟩
theorem q52_(d:Dfn K mg "is_whole" z39_ ["thing"])(g:Gs K mg C CT):Fn P w K mg base "is_whole" 1 ["thing"] spWholeA:=by
 refine d.fn z98_ (fun vs H Q E h=>?_) (fun f cdv A outer s H vs Q E hr h=>?_)
 · obtain⟨v,dd,rfl,_⟩:=h
   rfl
 obtain⟨v,dd,rfl,hd,q⟩:=h;refine⟨_,(B.sone (B.ret (B.and (B.cB SW.call_isi g.b_isinstance SW.b_isinstance (B.cons (B.v 0) (B.cons (B.ty g.b_int SW.b_int) B.nil))) (B.one (B.not (B.cB SW.call_isi g.b_isinstance SW.b_isinstance (B.cons (B.v 0) (B.cons (B.ty g.b_bool SW.b_bool) B.nil)))))))),?_⟩;walk_at "W";refine SW.iIsi hd.ty (isi_d_int dd) ?_;walk_at "W";cases dd with
 | int i=>
   refine iteT ?_;walk_at "W";refine SW.iIsi hd.ty (isi_d_bool _) ?_;walk_at "W";exact q
 | bool b=>
   refine iteT ?_;walk_at "W";refine SW.iIsi hd.ty (isi_d_bool _) ?_;walk_at "W";exact q
 | none=>exact iteF q
 | str x=>exact iteF q
 | list x=>exact iteF q
 | tuple x=>exact iteF q
 | dict x=>exact iteF q
theorem q15_(d:Dfn K mg "is_key" z33_ ["thing"])(g:Gs K mg C CT)(q12_:Fn P w K mg base "is_whole" 1 ["thing"] spWholeA):Fn P w K mg base "is_key" 2 ["thing"] (spInA 0):=by
 refine d.fn z92_ (fun vs H Q E h=>?_) (fun f cdv A outer s H vs Q E hr h=>?_)
 · obtain⟨v,dd,rfl,_⟩:=h
   rfl
 obtain⟨v,dd,rfl,hd,q⟩:=h;refine⟨_,(B.sone (B.ret (B.and (B.fn q12_ hr.up (B.cons (B.v 0) B.nil)) (B.one (B.chain op_le op_le B.int (B.v 0) (B.gint g.c_GREATEST)))))),?_⟩;walk_at "W";refine wWholeA hd ?_;walk_at "W";cases dd with
 | int i=>
   cases hd;refine iteT ?_;walk_at "W";have q:Q (.bl (decide (0<=i) && decide (i<=1000000000))) H:=q;by_cases c:0<=i
   · rw[decide_eq_true c]at q
     refine iteY c ?_;walk_at "W";exact q
   rw[decide_eq_false c]at q;exact iteNo c q
 | bool b=>exact iteF q
 | none=>exact iteF q
 | str x=>exact iteF q
 | list x=>exact iteF q
 | tuple x=>exact iteF q
 | dict x=>exact iteF q
theorem q54_(d:Dfn K mg "is_worth" z40_ ["thing"])(g:Gs K mg C CT)(q12_:Fn P w K mg base "is_whole" 1 ["thing"] spWholeA):Fn P w K mg base "is_worth" 2 ["thing"] (spInA (-1000000000)):=by
 refine d.fn z99_ (fun vs H Q E h=>?_) (fun f cdv A outer s H vs Q E hr h=>?_)
 · obtain⟨v,dd,rfl,_⟩:=h
   rfl
 obtain⟨v,dd,rfl,hd,q⟩:=h;refine⟨_,(B.sone (B.ret (B.and (B.fn q12_ hr.up (B.cons (B.v 0) B.nil)) (B.one (B.chain op_le op_le (B.un un_neg (B.gint g.c_GREATEST)) (B.v 0) (B.gint g.c_GREATEST)))))),?_⟩;walk_at "W";refine wWholeA hd ?_;walk_at "W";cases dd with
 | int i=>
   cases hd;refine iteT ?_;walk_at "W";have q:Q (.bl (decide (-1000000000<=i) && decide (i<=1000000000))) H:=q;by_cases c:-1000000000<=i
   · rw[decide_eq_true c]at q
     refine iteY c ?_;walk_at "W";exact q
   rw[decide_eq_false c]at q;exact iteNo c q
 | bool b=>exact iteF q
 | none=>exact iteF q
 | str x=>exact iteF q
 | list x=>exact iteF q
 | tuple x=>exact iteF q
 | dict x=>exact iteF q
theorem q31_(d:Dfn K mg "is_pair" z34_ ["thing"])(g:Gs K mg C CT)(q6_:Fn P w K mg base "is_key" 2 ["thing"] (spInA 0))(q13_:Fn P w K mg base "is_worth" 2 ["thing"] (spInA (-1000000000))):Fn P w K mg base "is_pair" 3 ["thing"] spPairA:=by
 refine d.fn z93_ (fun vs H Q E h=>?_) (fun f cdv A outer s H vs Q E hr h=>?_)
 · obtain⟨v,dd,rfl,_⟩:=h
   rfl
 obtain⟨v,dd,rfl,hd,q⟩:=h;refine⟨_,(B.sone (B.ret (B.and (B.cB SW.call_isi g.b_isinstance SW.b_isinstance (B.cons (B.v 0) (B.cons (B.ty g.b_tuple SW.b_tuple) B.nil))) (B.and (B.cmp op_eq (B.cB call_len_seq g.b_len SW.b_len (B.cons (B.v 0) B.nil)) B.int) (B.and (B.fn q6_ hr.up (B.cons (B.ix ix_tup (B.v 0) B.int) B.nil)) (B.one (B.fn q13_ hr.up (B.cons (B.ix ix_tup (B.v 0) B.int) B.nil)))))))),?_⟩;walk_at "W";refine SW.iIsi hd.ty (isi_d_tup dd) ?_;walk_at "W";cases hd with
 | @tup a xs ds h r=>
   have hl:=r.len;refine iteT ?_;walk_at "W";refine SW.iLen (.inr (SqT.of h)) ?_;walk_at "W";rcases r with _ | ⟨h1,r⟩
   · exact iteNo (by decide) q
   rcases r with _ | ⟨h2,r⟩
   · exact iteNo (fun z=>by simp at z) q
   rcases r with _ | ⟨h3,r⟩
   · refine iteY rfl ?_
     walk_at "W";refine wInA h1 ?_;walk_at "W";rename_i x1 d1 x2 d2;have q:Q (.bl (isInD 0 d1 && isInD (-1000000000) d2)) H:=q;cases e1:isInD 0 d1 with
     | false=>rw[e1]at q;exact iteF q
     | true=>
       rw[e1]at q;refine iteT ?_;walk_at "W";refine wInA h2 ?_;exact q
   refine iteNo (fun z=>?_) q;simp at z;omega
 | non=>exact iteF q
 | bl b=>exact iteF q
 | int i=>exact iteF q
 | str x=>exact iteF q
 | lst h r=>exact iteF q
 | dic h=>exact iteF q
def spRowA:Sp:=fun vs H Q _=>∃(v:V) (d:PyData),vs=[v]/\Any H v d/\(∀ ds,d=.tuple ds->ds.length<=100000) /\ ∀ H',Same H H'->Q (.bl (isRowD d)) H'
theorem wRowA{H:Hp}{Q:VK}{E:XK}{v:V}{d:PyData}(h:Any H v d)(hl:∀ ds,d=.tuple ds->ds.length<=100000)(q:∀ H',Same H H'->Q (.bl (isRowD d)) H'):spRowA ([v]++[]) H Q E:=⟨v,d,rfl,h,hl,q⟩
theorem q38_(d:Dfn K mg "is_row" z35_ ["thing"])(g:Gs K mg C CT)(q7_:Fn P w K mg base "is_pair" 3 ["thing"] spPairA):Fn P w K mg base "is_row" 4 ["thing"] spRowA:=by
 refine d.fn z94_ (fun vs H Q E h=>?_) (fun f cdv A outer s H vs Q E hr h=>?_)
 · obtain⟨v,dd,rfl,_⟩:=h
   rfl
 obtain⟨v,dd,rfl,hd,hz,q⟩:=h;refine⟨_,(B.sone (B.ret (B.and (B.cB SW.call_isi g.b_isinstance SW.b_isinstance (B.cons (B.v 0) (B.cons (B.ty g.b_tuple SW.b_tuple) B.nil))) (B.one (B.cB SW.call_allL g.b_all SW.b_all (B.cons (SW.B.comp [] ["pair"] (SW.CompScope.of rfl rfl (by decide +kernel) (by decide +kernel) rfl trivial rfl rfl rfl) (by decide +kernel) (B.itup (B.v 0)) (fun _ _ _ _=>(B.fn q7_ hr.up (B.cons (B.v 0) B.nil)))) B.nil)))))),?_⟩
 walk_at "W";refine SW.iIsi hd.ty (isi_d_tup dd) ?_;walk_at "W";cases hd with
 | @tup a xs ds h r=>
   have hl:=r.len;have lim:sizeLine=16777216:=sizeLine_eq;have hz':=hz ds rfl;refine iteT ?_;walk_at "W";refine⟨a,rfl,⟨_,SqT.of h⟩,fun D hD=>?_⟩;refine comp_tupU (xs:=xs) (fun i σ' H'=>∃ v,σ'=[v]/\Same H H'/\H' D=some (.lst (((ds.take i).map isPairD).map V.bl))) ⟨none,rfl,Same.new hD,upd_same⟩ (fun i σ' H' _ ⟨v,_,s',_⟩=>SqT.of (s' _ _ h)) ?_ ?_
   · rintro i x σ' H' hx hi ⟨v,rfl,s',hD'⟩
     obtain⟨dx,hdx,hax⟩:=r.get hx;walk_at "W";refine wPairA (hax.same s') ?_;refine CN.mk hi hD' (by rw[List.length_map,List.length_map,List.length_take];omega) ⟨_,rfl,fun b o e=>by rw[upd_ne (ne_of_none e hD)];exact s' _ _ e,?_⟩
     rw[upd_same,take_snocF hdx,List.map_append,List.map_append]
     rfl
   rintro σ' H' ⟨v,rfl,s',hD'⟩;rw[hl,List.take_length]at hD';walk_at "W";refine⟨D,_,rfl,SqL.of hD',rfl,?_⟩;have e:(List.map isPairD ds).all id=isRowD (.tuple ds):=by rw[List.all_map];rfl
   rw[e];exact q _ s'
 | non=>exact iteF (q _ (Same.refl _))
 | bl b=>exact iteF (q _ (Same.refl _))
 | int i=>exact iteF (q _ (Same.refl _))
 | str x=>exact iteF (q _ (Same.refl _))
 | lst h r=>exact iteF (q _ (Same.refl _))
 | dic h=>exact iteF (q _ (Same.refl _))
def Wd1(d:PyData):Prop:=∀ ds,d=.tuple ds->ds.length<=100000
def Wd2(d:PyData):Prop:=∀ ds,d=.tuple ds->ds.length<=100000 /\ ∀ x∈ds,Wd1 x
def Wd3(d:PyData):Prop:=∀ ds,d=.tuple ds -> ∀ x∈ds,Wd2 x
def spRowsA:Sp:=fun vs H Q _=>∃(v:V) (d:PyData),vs=[v]/\Any H v d/\Wd2 d /\ ∀ H',Same H H'->Q (.bl (areRowsD d)) H'
theorem wRowsA{H:Hp}{Q:VK}{E:XK}{v:V}{d:PyData}(h:Any H v d)(hl:Wd2 d)(q:∀ H',Same H H'->Q (.bl (areRowsD d)) H'):spRowsA ([v]++[]) H Q E:=⟨v,d,rfl,h,hl,q⟩
def spStateA:Sp:=fun vs H Q _=>∃(v:V) (d:PyData),vs=[v]/\Any H v d/\Wd3 d /\ ∀ H',Same H H'->Q (.bl (isStateD d)) H'
theorem wStateA{H:Hp}{Q:VK}{E:XK}{v:V}{d:PyData}(h:Any H v d)(hl:Wd3 d)(q:∀ H',Same H H'->Q (.bl (isStateD d)) H'):spStateA ([v]++[]) H Q E:=⟨v,d,rfl,h,hl,q⟩
theorem q39_(d:Dfn K mg "are_rows" z28_ ["thing"])(g:Gs K mg C CT)(q8_:Fn P w K mg base "is_row" 4 ["thing"] spRowA):Fn P w K mg base "are_rows" 5 ["thing"] spRowsA:=by
 refine d.fn z87_ (fun vs H Q E h=>?_) (fun f cdv A outer s H vs Q E hr h=>?_)
 · obtain⟨v,dd,rfl,_⟩:=h
   rfl
 obtain⟨v,dd,rfl,hd,hz,q⟩:=h;refine⟨_,(B.sone (B.ret (B.and (B.cB SW.call_isi g.b_isinstance SW.b_isinstance (B.cons (B.v 0) (B.cons (B.ty g.b_tuple SW.b_tuple) B.nil))) (B.one (B.cB SW.call_allL g.b_all SW.b_all (B.cons (SW.B.comp [] ["row"] (SW.CompScope.of rfl rfl (by decide +kernel) (by decide +kernel) rfl trivial rfl rfl rfl) (by decide +kernel) (B.itup (B.v 0)) (fun _ _ _ _=>(B.fn q8_ hr.up (B.cons (B.v 0) B.nil)))) B.nil)))))),?_⟩
 walk_at "W";refine SW.iIsi hd.ty (isi_d_tup dd) ?_;walk_at "W";cases hd with
 | @tup a xs ds h r=>
   have hl:=r.len;have lim:sizeLine=16777216:=sizeLine_eq;obtain⟨hz1,hz2⟩:=hz ds rfl;refine iteT ?_;walk_at "W";refine⟨a,rfl,⟨_,SqT.of h⟩,fun D hD=>?_⟩;refine comp_tupU (xs:=xs) (fun i σ' H'=>∃ v,σ'=[v]/\Same H H'/\H' D=some (.lst (((ds.take i).map isRowD).map V.bl))) ⟨none,rfl,Same.new hD,upd_same⟩ (fun i σ' H' _ ⟨v,_,s',_⟩=>SqT.of (s' _ _ h)) ?_ ?_
   · rintro i x σ' H' hx hi ⟨v,rfl,s',hD'⟩
     obtain⟨dx,hdx,hax⟩:=r.get hx;walk_at "W";refine wRowA (hax.same s') (hz2 _ (List.mem_of_getElem? hdx)) fun H5 s5=>?_;refine CN.mk hi (s5 _ _ hD') (by rw[List.length_map,List.length_map,List.length_take];omega) ⟨_,rfl,fun b o e=>by rw[upd_ne (ne_of_none e hD)];exact s5 _ _ (s' _ _ e),?_⟩
     rw[upd_same,take_snocF hdx,List.map_append,List.map_append]
     rfl
   rintro σ' H' ⟨v,rfl,s',hD'⟩;rw[hl,List.take_length]at hD';walk_at "W";refine⟨D,_,rfl,SqL.of hD',rfl,?_⟩;have e:(List.map isRowD ds).all id=areRowsD (.tuple ds):=by rw[List.all_map];rfl
   rw[e];exact q _ s'
 | non=>exact iteF (q _ (Same.refl _))
 | bl b=>exact iteF (q _ (Same.refl _))
 | int i=>exact iteF (q _ (Same.refl _))
 | str x=>exact iteF (q _ (Same.refl _))
 | lst h r=>exact iteF (q _ (Same.refl _))
 | dic h=>exact iteF (q _ (Same.refl _))
theorem q46_(d:Dfn K mg "is_state" z38_ ["thing"])(g:Gs K mg C CT)(q12_:Fn P w K mg base "is_whole" 1 ["thing"] spWholeA)(q0_:Fn P w K mg base "are_rows" 5 ["thing"] spRowsA):Fn P w K mg base "is_state" 6 ["thing"] spStateA:=by
 refine d.fn z97_ (fun vs H Q E h=>?_) (fun f cdv A outer s H vs Q E hr h=>?_)
 · obtain⟨v,dd,rfl,_⟩:=h
   rfl
 obtain⟨v,dd,rfl,hd,hz,q⟩:=h;refine⟨_,(B.scons (B.ifs (B.tw (B.wor (B.tnot (B.tval (B.cB SW.call_isi g.b_isinstance SW.b_isinstance (B.cons (B.v 0) (B.cons (B.ty g.b_tuple SW.b_tuple) B.nil))))) (B.wor1 (B.tcmp op_ne (B.cB call_len_seq g.b_len SW.b_len (B.cons (B.v 0) B.nil)) B.int)))) (B.sone (B.ret B.bl)) B.snil)
  (B.sone (B.ret (B.and (B.or (B.cmp op_isN (B.ix ix_tup (B.v 0) B.int) B.non) (B.one (B.fn q0_ hr.up (B.cons (B.ix ix_tup (B.v 0) B.int) B.nil)))) (B.and (B.fn q12_ hr.up (B.cons (B.ix ix_tup (B.v 0) B.int) B.nil)) (B.one (B.fn q0_ hr.up (B.cons (B.ix ix_tup (B.v 0) B.int) B.nil)))))))),?_⟩
 walk_at "W";refine SW.iIsi hd.ty (isi_d_tup dd) ?_;walk_at "W";have q0:isStateD dd=false->Q (.bl false) H:=fun e=>by have:=q _ (Same.refl H);rw[e]at this;exact this
 cases hd with
 | @tup a xs ds h r=>
   have hl:=r.len;have hz':=hz ds rfl;refine iteF ?_;walk_at "W";refine SW.iLen (.inr (SqT.of h)) ?_;walk_at "W";rcases r with _ | ⟨h1,r⟩
   · refine iteNN (fun z=>by simp at z) ?_
     walk_at "W";exact q0 rfl
   rcases r with _ | ⟨h2,r⟩
   · refine iteNN (fun z=>by simp at z) ?_
     walk_at "W";exact q0 rfl
   rcases r with _ | ⟨h3,r⟩
   · refine iteNN (fun z=>by simp at z) ?_
     walk_at "W";exact q0 rfl
   rcases r with _ | ⟨h4,r⟩
   · rename_i x1 d1 x2 d2 x3 d3
     refine iteNS rfl ?_;walk_at "W";refine⟨rfl,?_⟩;walk_at "W";have hT:=h;by_cases hx:x1=V.non
     · subst hx
       have eE:isElD d1=true:=by cases h1;rfl
       refine iteY rfl ?_;walk_at "W";refine iteT ?_;walk_at "W";refine wWholeA (h2.same (Same.refl H)) ?_;walk_at "W";cases e2:isWhD d2 with
       | false=>
         refine iteF ?_;have:=q _ (Same.refl H);rw[show isStateD (.tuple [d1,d2,d3])=false by show(isElD d1 && isWhD d2 && areRowsD d3)=false;rw[e2];cases isElD d1 <;> rfl]at this
         exact this
       | true=>
         refine iteT ?_;walk_at "W";refine wRowsA (h3.same (Same.refl H)) (hz' d3 (by simp)) fun H6 s6=>?_
         have:=q _ (Same.trans (Same.refl H) s6);rw[show isStateD (.tuple [d1,d2,d3])=areRowsD d3 by show(isElD d1 && isWhD d2 && areRowsD d3)=areRowsD d3;rw[e2,eE];rfl]at this
         exact this
     refine iteNo hx ?_;walk_at "W";refine wRowsA h1 (hz' d1 (by simp)) fun H5 s5=>?_
     have eN:isElD d1=areRowsD d1:=by cases h1 <;> first | exact absurd rfl hx | rfl
     walk_at "W";cases eR:areRowsD d1 with
     | false=>
       refine iteF ?_;have:=q _ s5;rw[show isStateD (.tuple [d1,d2,d3])=false by show(isElD d1 && isWhD d2 && areRowsD d3)=false;rw[eN,eR];rfl]at this
       exact this
     | true=>
       have eE:isElD d1=true:=eN.trans eR;have hT5:=s5 _ _ h;refine iteT ?_;walk_at "W";refine wWholeA (h2.same s5) ?_;walk_at "W";cases e2:isWhD d2 with
       | false=>
         refine iteF ?_;have:=q _ s5;rw[show isStateD (.tuple [d1,d2,d3])=false by show(isElD d1 && isWhD d2 && areRowsD d3)=false;rw[e2];cases isElD d1 <;> rfl]at this
         exact this
       | true=>
         refine iteT ?_;walk_at "W";refine wRowsA (h3.same s5) (hz' d3 (by simp)) fun H6 s6=>?_
         have:=q _ (Same.trans s5 s6);rw[show isStateD (.tuple [d1,d2,d3])=areRowsD d3 by show(isElD d1 && isWhD d2 && areRowsD d3)=areRowsD d3;rw[e2,eE];rfl]at this
         exact this
   refine iteNN (fun z=>by simp at z;omega) ?_
   walk_at "W";exact q0 rfl
 | non=>refine iteT ?_;walk_at "W";exact q0 rfl
 | bl b=>refine iteT ?_;walk_at "W";exact q0 rfl
 | int i=>refine iteT ?_;walk_at "W";exact q0 rfl
 | str x=>refine iteT ?_;walk_at "W";exact q0 rfl
 | lst h r=>refine iteT ?_;walk_at "W";exact q0 rfl
 | dic h=>refine iteT ?_;walk_at "W";exact q0 rfl
theorem or_el{K:W.Frag}{σ:L2.St}{H:Hp}{Q:VK}{x:V}{el:Option MRows}(h:ElV H x el)(k:∀ v' H',Same H H'->RowsV H' v' (el.getD [])->Q v' H') :
 (x=.non/\tTup tNil σ H Q) ∨ ∃ a xs,x=.ref a/\SqT K H a xs/\if xs.isEmpty=true then tTup tNil σ H Q else Q x H:=by
 have emp:el.getD []=[]->tTup tNil σ H Q:=fun e=>⟨by show(0:Nat)<=sizeLine;decide,fun p hp=>k (.ref p) _ (Same.new hp) ⟨p,[],rfl,upd_same,by rw[e];exact .nil⟩⟩
 cases el with
 | none=>exact .inl ⟨h,emp rfl⟩
 | some R=>
   have hh:RowsV H x R:=h;obtain⟨a,xs,rfl,ha,hp⟩:=id hh;refine .inr ⟨a,xs,rfl,SqT.of ha,?_⟩;cases xs with
   | nil=>
     cases hp;exact iteT (emp rfl)
   | cons y ys=>exact iteF (k _ H (Same.refl _) hh)
theorem mem_tripR{sh:Bool}{i:Nat}{r:MRow}{t:Trip}(h:t∈tripR sh i r):t.1=sh/\t.2.1=i:=by
 obtain⟨p,_,rfl⟩:=List.mem_map.mp h;exact⟨rfl,rfl⟩
theorem mem_tripF{sh:Bool}{t:Trip}:∀{R:MRows}{i:Nat},t∈tripF sh i R->t.1=sh/\i<=t.2.1/\t.2.1 < i+R.length
 | [],_,h=>by cases h
 | r::R,i,h=>by
   rcases List.mem_append.mp (show t∈tripR sh i r++tripF sh (i+1) R from h)with z | z
   · have:=mem_tripR z
     rw[List.length_cons];exact⟨this.1,by omega,by omega⟩
   have:=mem_tripF z;rw[List.length_cons];exact⟨this.1,by omega,by omega⟩
theorem tripS_pos{S:Sta}{t:Trip}(h:t∈tripS S):0 < szOf S t.1:=by
 rcases List.mem_append.mp h with z | z
 · obtain⟨e,_,h2⟩:=mem_tripF z
   rw[e];show 0 < (S.el.getD []).length;omega
 obtain⟨e,_,h2⟩:=mem_tripF z;rw[e];show 0 < S.nw.length;omega
theorem tot_take(R:MRows)(j:Nat):tot (R.take j)<=tot R:=by
 have e:tot R=tot (R.take j)+tot (R.drop j):=by
  unfold tot;rw[← List.sum_append,← List.map_append,List.take_append_drop]
 omega
def Big(S:Sta):Prop:=tot (S.el.getD [])+tot S.nw<=100000
def spKeysT:Sp:=fun vs H Q _=>∃(v:V) (S:Sta),vs=[v]/\StV H v S/\Big S /\ ∀ l zs H',Same H H'->H' l=some (.lst zs)->TrVs H' zs (tripS S)->Q (.ref l) H'
theorem wKeysT{H:Hp}{Q:VK}{E:XK}{v:V}{S:Sta}(h1:StV H v S)(h2:Big S)(k:∀ l zs H',Same H H'->H' l=some (.lst zs)->TrVs H' zs (tripS S)->Q (.ref l) H'):spKeysT ([v]++[]) H Q E:=⟨v,S,rfl,h1,h2,k⟩
theorem q16_(d:Dfn K mg "keys_in_turn" z41_ ["state"])(g:Gs K mg C CT):Fn P w K mg base "keys_in_turn" 1 ["state"] spKeysT:=by
 refine d.fn z100_ (fun vs H Q E h=>?_) (fun f cdv A outer s H vs Q E hr h=>?_)
 · obtain⟨v,S,rfl,_⟩:=h
   rfl
 obtain⟨v,S,rfl,hS,hB,k⟩:=h;obtain⟨u,ve,vn,rfl,hu,he,hn⟩:=id hS;have lim:sizeLine=16777216:=sizeLine_eq;have hB:tot (S.el.getD [])+tot S.nw<=100000:=hB;refine⟨_,(B.scons (B.set 1 z100_.nd (B.lst B.nil))
  (B.scons (B.fors (B.itup (B.tup (B.cons (B.tup (B.cons B.str (B.cons (SW.B.orA (B.ix ix_tup (B.v 0) B.int) (B.one (B.tup B.nil))) B.nil))) (B.cons (B.tup (B.cons B.str (B.cons (B.ix ix_tup (B.v 0) B.int) B.nil))) B.nil)))) (B.gtup (B.gcons (B.gname (i:=2) z100_.nd) (B.gcons (B.gname (i:=3) z100_.nd) B.gnil))) (B.sone (B.fors (SW.B.ienumT g.b_enumerate (B.cons (B.v 3) B.nil)) (B.gtup (B.gcons (B.gname (i:=4) z100_.nd) (B.gcons (B.gname (i:=5) z100_.nd) B.gnil))) (B.sone (B.expr (B.m PySem.F.plainAttrs_list PySem.F.slot_list_extend PySem.F.type_list_extend mt_extend (B.v 1) (B.cons (SW.B.comp [2,4] ["pair","shelf","place"] (SW.CompScope.of rfl rfl (by decide +kernel) (by decide +kernel) rfl ⟨rfl,rfl,trivial⟩ rfl rfl rfl) (by decide +kernel) (B.itup (B.v 5)) (fun _ _ _ _=>(B.tup (B.cons (B.v 1) (B.cons (B.v 2) (B.cons (B.ix (SW.ix_tupK K) (B.v 0) B.int) B.nil)))))) B.nil)))))))
  (B.sone (B.ret (B.v 1))))),?_⟩
 walk_at "W";refine⟨by show(0:Nat)<=sizeLine;decide,fun l hl=>?_⟩
 have s1:Same H (upd H l (.lst [])):=Same.new hl;have hu1:=s1 _ _ hu;walk_at "W";refine or_el (he.keep (SW.Same.tk s1)) fun va H2 s2 ha=>?_;walk_at "W";refine⟨by show(2:Nat)<=sizeLine;decide,fun t1 ht1=>?_⟩
 have a3:=Same.new (o:=.tup [.str "elder",va]) ht1;have hu3:=(s2.trans a3) _ _ hu1;walk_at "W";refine⟨by show(2:Nat)<=sizeLine;decide,fun t2 ht2=>?_⟩
 have a4:=Same.new (o:=.tup [.str "newer",vn]) ht2;walk_at "W";refine⟨by show(2:Nat)<=sizeLine;decide,fun t3 ht3=>?_⟩
 have a5:=Same.new (o:=.tup [.ref t1,.ref t2]) ht3;have s15:=s2.trans ((a3.trans a4).trans a5);have et1:=(a4.trans a5) _ _ (upd_same (H:=H2) (a:=t1) (o:=.tup [.str "elder",va]));have et2:=a5 _ _ (upd_same (a:=t2) (o:=.tup [.str "newer",vn]));have hva:=ha.keep (SW.Same.tk ((a3.trans a4).trans a5));have hvn:=hn.keep (SW.Same.tk (s1.trans s15));have el:=s15 _ _ (upd_same (H:=H) (a:=l) (o:=.lst []));have s05:=s1.trans s15;have e3:=upd_same (H:=upd (upd H2 t1 (.tup [.str "elder",va])) t2 (.tup [.str "newer",vn])) (a:=t3) (o:=.tup [.ref t1,.ref t2]);obtain⟨H5,hH5⟩:∃ H5,H5=upd (upd (upd H2 t1 (.tup [.str "elder",va])) t2 (.tup [.str "newer",vn])) t3 (.tup [.ref t1,.ref t2]):=⟨_,rfl⟩;rw[← hH5]at et1 et2 hva hvn el s05 e3 ⊢;clear hH5 s15 a3 a4 a5 hu3;have n3:t3≠l:=ne_of e3 el (by intro z;cases z)
 -- what is told ahead of the i-th shelf
 obtain⟨acc,hacc⟩:∃ acc:Nat->List Trip,acc=fun i=>if i=0 then[]else if i=1 then tripF true 0 (S.el.getD [])else tripS S:=⟨_,rfl⟩;have itm:∀ i x,[V.ref t1,V.ref t2][i]?=some x -> ∃(t:Addr) (sh:Bool) (vr:V) (R:MRows),x=.ref t/\H5 t=some (.tup [.str (shN sh),vr])/\RowsV H5 vr R/\acc (i+1)=acc i++tripF sh 0 R/\(acc i).length+tot R<=100000:=by
  intro i x e
  match i,e with
  | 0,e=>
    cases e;refine⟨t1,true,va,S.el.getD [],rfl,et1,hva,by rw[hacc];rfl,?_⟩
    rw[hacc];show 0+_<=_;omega
  | 1,e=>
    cases e;refine⟨t2,false,vn,S.nw,rfl,et2,hvn,by rw[hacc];rfl,?_⟩
    rw[hacc];show(tripF true 0 (S.el.getD [])).length+_<=_;rw[tripF_len];exact hB
  | n+2,e=>simp at e
 refine⟨t3,rfl,⟨_,SqT.of e3⟩,?_⟩;refine for_tup (xs:=[V.ref t1,V.ref t2]) (fun i σ H'=>∃(zs:List V) (v2 v3 v4 v5:Option V),σ=[some (.ref u),some (.ref l),v2,v3,v4,v5]/\KeepBut l H5 H'/\H' l=some (.lst zs)/\TrVs H' zs (acc i)) ⟨[],none,none,none,none,rfl,KeepBut.refl _ _,el,by rw[hacc];exact .nil⟩ (fun i σ H' _ ⟨_,_,_,_,_,_,k',_⟩=>SqT.of (k' _ _ n3 e3)) ?_ ?_
 · rintro i x σ H' hx ⟨zs,v2,v3,v4,v5,rfl,k',hl',hz⟩
   obtain⟨t,sh,vr,R,rfl,ht,hR,hac,hlen⟩:=itm i x hx;have tk':TK H5 H':=fun a xs e=>k' _ _ (ne_of e el (by intro z;cases z)) e
   obtain⟨ra,rs,rfl,hra,hrs⟩:=hR;have hrl:=paired_len hrs;refine⟨t,_,rfl,SqT.of (tk' _ _ ht),rfl,_,_,rfl,?_⟩;walk_at "W";refine⟨_,_,rfl,?_⟩;walk_at "W";refine⟨rfl,?_⟩;walk_at "W";refine⟨ra,rfl,⟨_,SqT.of (tk' _ _ hra)⟩,?_⟩;refine for_enumT (xs:=rs) (fun j σ H''=>∃(zs:List V) (v4 v5:Option V),σ=[some (.ref u),some (.ref l),some (.str (shN sh)),some (.ref ra),v4,v5]/\KeepBut l H5 H''/\H'' l=some (.lst zs)/\TrVs H'' zs (acc i++tripF sh 0 (R.take j))) ⟨zs,v4,v5,rfl,k',hl',by rw[List.take_zero];show TrVs H' zs (acc i++[]);rw[List.append_nil];exact hz⟩ (fun j σ H'' ⟨_,_,_,_,k'',_⟩=>SqT.of (k'' _ _ (ne_of hra el (by intro z;cases z)) hra)) ?_ ?_
   · rintro j y σ H'' T hy hT ⟨zs,v4,v5,rfl,k'',hl'',hz⟩
     obtain⟨r,hr_,b,ys,rfl,hb,hps⟩:=paired_get hrs hy;have tk'':TK H5 H'':=fun a xs e=>k'' _ _ (ne_of e el (by intro z;cases z)) e
     have aT:=Same.new (o:=.tup [.int (j:Int),.ref b]) hT;have hb2:=aT _ _ (tk'' _ _ hb);have hps2:=(hps.keep tk'').keep (SW.Same.tk aT);have hl2:=aT _ _ hl'';have nlT:T≠l:=(ne_of_none hl'' hT).symm;have hyl:=hps.len;have htk:=take_snocF hr_;have hrlen:r.length<=tot R:=by
      have:=tot_take R (j+1);rw[htk]at this;unfold tot at this ⊢;rw[List.map_append,List.sum_append]at this;have h2:(List.map List.length [r]).sum=r.length:=by simp
      omega
     have hzl:zs.length+r.length<=100000:=by
      have h1:=paired_len hz;rw[List.length_append,tripF_len]at h1;have h2:=tot_take R (j+1);rw[htk]at h2;have h3:tot (R.take j++[r])=tot (R.take j)+r.length:=by
       unfold tot;rw[List.map_append,List.sum_append];simp
      omega
     refine⟨T,_,rfl,SqT.of upd_same,rfl,_,_,rfl,?_⟩;walk_at "W";refine⟨_,_,rfl,?_⟩;walk_at "W";refine⟨rfl,?_⟩;walk_at "W";refine wBM ?_;walk_at "W";refine⟨.inl ⟨rfl,_,SqL.of hl2⟩,?_⟩;walk_at "W";refine⟨b,rfl,⟨_,SqT.of hb2⟩,fun D hD=>?_⟩;obtain⟨H6,hH6⟩:∃ H6,H6=upd H'' T (.tup [.int (j:Int),.ref b]):=⟨_,rfl⟩;rw[← hH6]at aT hb2 hps2 hl2 hD ⊢;clear hH6;refine comp_tupU (xs:=ys) (fun q σ' H3=>∃(v:Option V) (ds:List V),σ'=[v,some (.str (shN sh)),some (.int (j:Int))]/\Same H6 H3/\H3 D=some (.lst ds)/\TrVs H3 ds (tripR sh j (r.take q))/\ds.length=q) ⟨none,[],rfl,Same.new hD,upd_same,by rw[List.take_zero];exact .nil,rfl⟩ (fun q σ' H3 _ ⟨_,_,_,s',_⟩=>SqT.of (s' _ _ hb2)) ?_ ?_
     · rintro q y σ' H3 hy hq ⟨v,ds,rfl,s',hD',hds,hdl⟩
       obtain⟨⟨k1,y1⟩,hpp,c,rfl,hc⟩:=paired_get hps2 hy;have hc':=s' _ _ hc;walk_at "W";refine⟨by show(3:Nat)<=sizeLine;decide,fun t4 ht4=>?_⟩
       have a7:=Same.new (o:=.tup [.str (shN sh),.int (j:Int),.int k1]) ht4;have hD7:=a7 _ _ hD';have n7:t4≠D:=(ne_of_none hD' ht4).symm;have tk:TK H3 (upd (upd H3 t4 (.tup [.str (shN sh),.int (j:Int),.int k1])) D (.lst (ds++[.ref t4]))):=fun a xs e=>by
        rw[upd_ne (ne_of e hD' (by intro z;cases z))]
        exact a7 _ _ e
       refine CN.mk hq hD7 (by omega) ⟨_,ds++[.ref t4],rfl,fun b o e=>by rw[upd_ne (ne_of_none e hD)];exact a7 _ _ (s' _ _ e),upd_same,?_,by rw[List.length_append,hdl];rfl⟩
       rw[take_snocF hpp];unfold tripR;rw[List.map_append];exact paired_append (.cons ⟨t4,rfl,by rw[upd_ne n7];exact upd_same⟩ .nil) (TrVs.keep hds tk)
     rintro σ' H3 ⟨v,ds,rfl,s',hD',hds,hdl⟩;rw[hyl,List.take_length]at hds;have hl3:=s' _ _ hl2;walk_at "W";refine⟨l,D,zs,ds,rfl,rfl,hl3,hD',by omega,?_⟩
     have nDl:l≠D:=ne_of_none hl2 hD;have tkx:TK H3 (upd H3 l (.lst (zs++ds))):=fun a xs e=>by rw[upd_ne (ne_of e hl3 (by intro z;cases z))];exact e
     walk_at "W";refine⟨zs++ds,_,_,rfl,fun b o n e=>?_,upd_same,?_⟩
     · rw[upd_ne n]
       exact s' _ _ (aT _ _ (k'' _ _ n e))
     rw[htk,tripF_snoc,Nat.zero_add];have e5:(R.take j).length=j:=by
      rw[List.length_take];have:j < R.length:=(List.getElem?_eq_some_iff.mp hr_).1;omega
     rw[e5,← List.append_assoc];exact paired_append (TrVs.keep hds tkx) (TrVs.keep (TrVs.keep (TrVs.keep hz (SW.Same.tk aT)) (SW.Same.tk s')) tkx)
   rintro σ H'' ⟨zs,v4,v5,rfl,k'',hl'',hz⟩;rw[hrl,List.take_length,← hac]at hz;exact⟨zs,_,_,_,_,rfl,k'',hl'',hz⟩
 rintro σ H' ⟨zs,v2,v3,v4,v5,rfl,k',hl',hz⟩;walk_at "W";refine k l zs H' (fun b o e=>k' _ _ (ne_of_none e hl) (s05 _ _ e)) hl' ?_;have e2:acc [V.ref t1,V.ref t2].length=tripS S:=by rw[hacc];rfl
 rw[← e2];exact hz
def spPairsF:Sp:=fun vs H Q _=>∃(v:V) (t:Addr) (f m:Int) (S:Sta),vs=[v,.ref t]/\StV H v S/\Big S/\H t=some (.tup [.int f,.int m])/\(0<=f/\f<=65535) /\ ∀ v' H',Same H H'->FltV H' v' (firstP f m (szOf S) (mvOf S) [] (tripS S))->Q v' H'
theorem wPairsF{H:Hp}{Q:VK}{E:XK}{v:V}{t:Addr}{f m:Int}{S:Sta}(h1:StV H v S)(h2:Big S)(h3:H t=some (.tup [.int f,.int m]))(h4:0<=f/\f<=65535)(k:∀ v' H',Same H H'->FltV H' v' (firstP f m (szOf S) (mvOf S) [] (tripS S))->Q v' H'):spPairsF ([v,.ref t]++[]) H Q E:=⟨v,t,f,m,S,rfl,h1,h2,h3,h4,k⟩
def spFaultF:Sp:=fun vs H Q _=>∃(v:V) (t:Addr) (f m:Int) (S:Sta),vs=[v,.ref t]/\StV H v S/\Big S/\H t=some (.tup [.int f,.int m])/\(0<=f/\f<=65535) /\ ∀ v' H',Same H H'->FltV H' v' (faultOf f m S)->Q v' H'
theorem wFaultF{H:Hp}{Q:VK}{E:XK}{v:V}{t:Addr}{f m:Int}{S:Sta}(h1:StV H v S)(h2:Big S)(h3:H t=some (.tup [.int f,.int m]))(h4:0<=f/\f<=65535)(k:∀ v' H',Same H H'->FltV H' v' (faultOf f m S)->Q v' H'):spFaultF ([v,.ref t]++[]) H Q E:=⟨v,t,f,m,S,rfl,h1,h2,h3,h4,k⟩
theorem q33_(d:Dfn K mg "first_fault_of_pairs" z30_ ["state","mixer"])(g:Gs K mg C CT)(q35_:Fn P w K mg base "place_of" 1 ["mark","size"] spPlace)(q28_:Fn P w K mg base "mark_of" 1 ["key","mixer"] spMark)(q17_:Fn P w K mg base "keys_in_turn" 1 ["state"] spKeysT):Fn P w K mg base "first_fault_of_pairs" 2 ["state","mixer"] spPairsF:=by
 refine d.fn z89_ (fun vs H Q E h=>?_) (fun f cdv A outer s H vs Q E hr h=>?_)
 · obtain⟨v,t,f,m,S,rfl,_⟩:=h
   rfl
 obtain⟨v,t,fa,mo,S,rfl,hS,hB,ht,hf,k⟩:=h;obtain⟨u,ve,vn,rfl,hu,he,hn⟩:=id hS;have lim:sizeLine=16777216:=sizeLine_eq;have sab:((("elder":PySem.Str)) == ("newer":PySem.Str))=false:=by decide +kernel
 refine⟨_,(B.scons (B.set 2 z89_.nd (SW.B.disp (SW.B.ppcons B.str (B.cB call_len_seq g.b_len SW.b_len (B.cons (SW.B.orA (B.ix ix_tup (B.v 0) B.int) (B.one (B.tup B.nil))) B.nil)) (SW.B.ppcons B.str (B.cB call_len_seq g.b_len SW.b_len (B.cons (B.ix ix_tup (B.v 0) B.int) B.nil)) SW.B.ppnil))))
  (B.scons (B.set 3 z89_.nd (SW.B.disp (SW.B.ppcons B.str (B.ix ix_tup (B.v 0) B.int) (SW.B.ppcons B.str B.int SW.B.ppnil))))
  (B.scons (B.set 4 z89_.nd B.dnew)
  (B.scons (B.fors (B.ilist (B.fn q17_ hr.up (B.cons (B.v 0) B.nil))) (B.gtup (B.gcons (B.gname (i:=5) z89_.nd) (B.gcons (B.gname (i:=6) z89_.nd) (B.gcons (B.gname (i:=7) z89_.nd) B.gnil)))) (B.scons (B.ifs (B.tcmp op_ne (B.fn q35_ hr.up (B.cons (B.fn q28_ hr.up (B.cons (B.v 7) (B.cons (B.v 1) B.nil))) (B.cons (SW.B.dget (hu_of hr) (B.v 2) (B.v 5)) B.nil))) (B.v 6)) (B.sone (B.ret (B.tup (B.cons B.str (B.cons (B.v 5) (B.cons (B.v 6) B.nil)))))) B.snil)
  (B.scons (B.ifs (B.tcmp op_lt (B.v 6) (SW.B.dget (hu_of hr) (B.v 3) (B.v 5))) (B.sone (B.ret (B.tup (B.cons B.str (B.cons (B.v 5) (B.cons (B.v 6) B.nil)))))) B.snil)
  (B.scons (B.ifs (B.tdin (hu_of hr) (B.v 7) (B.v 4)) (B.sone (B.ret (B.tup (B.cons B.str (B.cons (B.v 5) (B.cons (B.v 6) B.nil)))))) B.snil)
  (B.sone (B.dput (hu_of hr) (B.v 4) (B.v 7) B.bl))))))
  (B.sone (B.ret B.non)))))),?_⟩
 walk_at "W";refine SW.wDisp fun p1 hp1=>?_;have s1:Same H (upd H p1 (.dK [])):=Same.new hp1;have hu1:=s1 _ _ hu;walk_at "W";refine or_el (he.keep (SW.Same.tk s1)) fun va H2 s2 ha=>?_;obtain⟨ra,rs,rfl,hra,hrs⟩:=ha;have hrl:=paired_len hrs;walk_at "W";refine SW.iLen (.inr (SqT.of hra)) ?_;have s12:=s1.trans s2;have hu2:=s12 _ _ hu;obtain⟨na,ns,rfl,hna,hns⟩:=hn.keep (SW.Same.tk s12);have hnl:=paired_len hns;walk_at "W";refine SW.iLen (.inr (SqT.of hna)) ?_;walk_at "W";refine disp2 (s2 _ _ upd_same) ?_;rw[merge2 sab,hrl,hnl];have b3:∀ b o,b≠p1->H2 b=some o->upd H2 p1 (.dK [(Sum.inr "elder",.int ((S.el.getD []).length:Nat)),(Sum.inr "newer",.int (S.nw.length:Nat))]) b=some o:=fun b o n e=>by rw[upd_ne n];exact e
 have e3:=upd_same (H:=H2) (a:=p1) (o:=.dK [(Sum.inr "elder",.int ((S.el.getD []).length:Nat)),(Sum.inr "newer",.int (S.nw.length:Nat))]);obtain⟨H3,hH3⟩:∃ H3,H3=upd H2 p1 (.dK [(Sum.inr "elder",.int ((S.el.getD []).length:Nat)),(Sum.inr "newer",.int (S.nw.length:Nat))]):=⟨_,rfl⟩;rw[← hH3]at b3 e3 ⊢;clear hH3;have s03:Same H H3:=fun b o e=>b3 b o (ne_of_none e hp1) (s12 _ _ e);have hu3:=s03 _ _ hu;walk_at "W";refine SW.wDisp fun p4 hp4=>?_;have a4:Same H3 (upd H3 p4 (.dK [])):=Same.new hp4;have hu4:=a4 _ _ hu3;walk_at "W";refine disp2 upd_same ?_;rw[merge2 sab];have n41:p1≠p4:=ne_of_none e3 hp4;have b5:∀ b o,b≠p4->H3 b=some o->upd (upd H3 p4 (.dK [])) p4 (.dK [(Sum.inr "elder",.int S.mv),(Sum.inr "newer",.int 0)]) b=some o:=fun b o n e=>by rw[upd_ne n,upd_ne n];exact e
 have e5:=upd_same (H:=upd H3 p4 (.dK [])) (a:=p4) (o:=.dK [(Sum.inr "elder",.int S.mv),(Sum.inr "newer",.int 0)]);obtain⟨H5,hH5⟩:∃ H5,H5=upd (upd H3 p4 (.dK [])) p4 (.dK [(Sum.inr "elder",.int S.mv),(Sum.inr "newer",.int 0)]):=⟨_,rfl⟩;rw[← hH5]at b5 e5 ⊢;clear hH5;have s05:Same H H5:=fun b o e=>b5 b o (ne_of_none (s03 _ _ e) hp4) (s03 _ _ e);have e35:=b5 _ _ n41 e3;walk_at "W";intro hd_ hhd;have a6:=Same.new (o:=.dK []) hhd;have s06:=s05.trans a6;have e36:=a6 _ _ e35;have e56:=a6 _ _ e5;have eh6:=upd_same (H:=H5) (a:=hd_) (o:=.dK []);have nh:H hd_=none:=s05.free hhd;obtain⟨H6,hH6⟩:∃ H6,H6=upd H5 hd_ (.dK []):=⟨_,rfl⟩;rw[← hH6]at a6 s06 e36 e56 eh6 ⊢;have n1h:p1≠hd_:=fun z=>by rw[← z,e35]at hhd;cases hhd
 have n4h:p4≠hd_:=fun z=>by rw[← z,e5]at hhd;cases hhd
 clear hH6;walk_at "W";refine wKeysT (hS.keep (SW.Same.tk s06)) hB fun l zs H7 s7 hl hz=>?_;have e37:=s7 _ _ e36;have e57:=s7 _ _ e56;have eh7:=s7 _ _ eh6;have s07:=s06.trans s7;have hzl:=paired_len hz;have htl:(tripS S).length<=100000:=by
  unfold tripS;rw[List.length_append,tripF_len,tripF_len];exact hB
 have nlh:l≠hd_:=ne_of hl eh7 (by intro z;cases z)
 have ntr:∀{x:Addr}{xs:List V},H7 x=some (.tup xs)->x≠hd_:=fun e=>ne_of e eh7 (by intro z;cases z)
 have ht7:=s07 _ _ ht;refine⟨l,rfl,⟨_,SqL.of hl⟩,?_⟩;refine L2.for_list (xs:=zs) (fun i σ H'=>∃(v5 v6 v7:Option V),σ=[some (.ref u),some (.ref t),some (.ref p1),some (.ref p4),some (.ref hd_),v5,v6,v7]/\KeepBut hd_ H7 H'/\H' hd_=some (.dK (kbs (((tripS S).take i).map (·.2.2))))/\firstP fa mo (szOf S) (mvOf S) [] (tripS S)=firstP fa mo (szOf S) (mvOf S) (((tripS S).take i).map (·.2.2)) ((tripS S).drop i)) ⟨none,none,none,rfl,KeepBut.refl _ _,eh7,rfl⟩ (fun i σ H' _ ⟨_,_,_,_,k',_⟩=>SqL.of (k' _ _ nlh hl)) ?_ ?_
 · rintro i x σ H' hx ⟨v5,v6,v7,rfl,k',hh',hfp⟩
   obtain⟨⟨sh,pl,ky⟩,hti,b,rfl,hb⟩:=paired_get hz hx;have hi:i < (tripS S).length:=(List.getElem?_eq_some_iff.mp hti).1;have hdr:(tripS S).drop i=(sh,pl,ky)::(tripS S).drop (i+1):=by
    rw[List.drop_eq_getElem_cons hi];rw[List.getElem?_eq_getElem hi]at hti;rw[Option.some.inj hti]
   rw[hdr,firstP_cons]at hfp;have hpos:=tripS_pos (List.mem_of_getElem? hti);have hpos:0 < szOf S sh:=hpos;have hb':=k' _ _ (ntr hb) hb;have ht':=k' _ _ (ntr ht7) ht7;have e3':=k' _ _ n1h e37;have e5':=k' _ _ n4h e57;have sH:Same H H':=fun b o e=>k' _ _ (ne_of_none e nh) (s07 _ _ e);have gS:DGet H' p1 (V.str (shN sh)) (some (V.int (szOf S sh:Nat))):=by
    cases sh with
    | true=>
      have z:=DGet.k (k:=Sum.inr "elder") e3';rw[val2a]at z;exact z
    | false=>
      have z:=DGet.k (k:=Sum.inr "newer") e3';rw[val2b sab]at z;exact z
   have gM:DGet H' p4 (V.str (shN sh)) (some (V.int (mvOf S sh))):=by
    cases sh with
    | true=>
      have z:=DGet.k (k:=Sum.inr "elder") e5';rw[val2a]at z;exact z
    | false=>
      have z:=DGet.k (k:=Sum.inr "newer") e5';rw[val2b sab]at z;exact z
   have fin:∀(kd:Nat) (nm:PySem.Str),nm=fkN kd->firstP fa mo (szOf S) (mvOf S) [] (tripS S)=some (.at_ kd sh pl) -> ∀ q,H' q=none->Q (.ref q) (upd H' q (.tup [.str nm,.str (shN sh),.int (pl:Nat)])):=by
    rintro kd nm rfl e q hq;refine k _ _ (sH.trans (Same.new hq)) ?_;rw[e];exact⟨q,rfl,upd_same⟩
   refine⟨b,_,rfl,SqT.of hb',rfl,_,_,rfl,?_⟩;walk_at "W";refine⟨_,_,rfl,?_⟩;walk_at "W";refine⟨_,_,rfl,?_⟩;walk_at "W";refine⟨rfl,?_⟩;walk_at "W";refine wMark ht' hf ?_;walk_at "W";refine⟨p1,_,rfl,gS,?_⟩;walk_at "W";refine wPlace (by omega) ?_
   walk_at "W";by_cases h1:(ky*fa+mo) % 65536 % (szOf S sh:Int)=pl
   · rw[if_neg (fun z=>z h1)]at hfp
     refine iteNS (by rw[h1]) ?_
     walk_at "W";refine⟨p4,_,rfl,gM,?_⟩;walk_at "W";by_cases h2:(pl:Int) < mvOf S sh
     · rw[if_pos h2]at hfp
       refine iteY h2 ?_;walk_at "W";exact⟨by show(3:Nat)<=sizeLine;decide,fin 1 "emptied" rfl hfp⟩
     rw[if_neg h2]at hfp;refine iteNo h2 ?_;walk_at "W";refine⟨hd_,_,rfl,DGet.k (k:=Sum.inl ky) hh',?_⟩;walk_at "W";rw[valV_kbs];by_cases h3:ky∈((tripS S).take i).map (·.2.2)
     · rw[if_pos h3]at hfp
       rw[decide_eq_true h3];refine iteT ?_;walk_at "W";exact⟨by show(3:Nat)<=sizeLine;decide,fin 2 "twice" rfl hfp⟩
     rw[if_neg h3]at hfp;rw[decide_eq_false h3];refine iteF ?_;walk_at "W";refine⟨hd_,_,rfl,DPut.k (k:=Sum.inl ky) hh' (by rw[kbs_len,List.length_map,List.length_take];omega),?_⟩
     rw[putK_kbs h3];have etk:((tripS S).take (i+1)).map (·.2.2)=((tripS S).take i).map (·.2.2)++[ky]:=by rw[take_snocF hti,List.map_append];rfl
     walk_at "W";refine⟨_,_,_,rfl,fun b o n e=>by rw[upd_ne n];exact k' _ _ n e,by rw[etk];exact upd_same,by rw[etk];exact hfp⟩
   rw[if_pos h1]at hfp;refine iteNN (fun z=>h1 (by injection z)) ?_
   walk_at "W";exact⟨by show(3:Nat)<=sizeLine;decide,fin 0 "place" rfl hfp⟩
 rintro σ H' ⟨v5,v6,v7,rfl,k',hh',hfp⟩;rw[hzl,List.drop_length]at hfp;walk_at "W";refine k _ _ (fun b o e=>k' _ _ (ne_of_none e nh) (s07 _ _ e)) ?_;rw[hfp]
 rfl
theorem q1_(d:Dfn K mg "first_fault" z29_ ["state","mixer"])(g:Gs K mg C CT)(q5_:Fn P w K mg base "has_right_places" 3 ["elder","newer"] spPlacesR)(q4_:Fn P w K mg base "has_right_moved" 1 ["elder","moved"] spMovedR)(q3_:Fn P w K mg base "first_fault_of_pairs" 2 ["state","mixer"] spPairsF):Fn P w K mg base "first_fault" 4 ["state","mixer"] spFaultF:=by
 refine d.fn z88_ (fun vs H Q E h=>?_) (fun f cdv A outer s H vs Q E hr h=>?_)
 · obtain⟨v,t,f,m,S,rfl,_⟩:=h
   rfl
 obtain⟨v,t,fa,mo,S,rfl,hS,hB,ht,hf,k⟩:=h;obtain⟨u,ve,vn,rfl,hu,he,hn⟩:=id hS;unfold faultOf at k;refine⟨_,(B.scons (B.ifs (B.tnot (B.tval (B.fn q5_ hr.up (B.cons (B.ix ix_tup (B.v 0) B.int) (B.cons (B.ix ix_tup (B.v 0) B.int) B.nil))))) (B.sone (B.ret (B.tup (B.cons B.str B.nil)))) B.snil)
  (B.scons (B.ifs (B.tnot (B.tval (B.fn q4_ hr.up (B.cons (B.ix ix_tup (B.v 0) B.int) (B.cons (B.ix ix_tup (B.v 0) B.int) B.nil))))) (B.sone (B.ret (B.tup (B.cons B.str B.nil)))) B.snil)
  (B.sone (B.ret (B.fn q3_ hr.up (B.cons (B.v 0) (B.cons (B.v 1) B.nil))))))),?_⟩
 walk_at "W";refine⟨ve,vn,S,rfl,he,hn,?_⟩;walk_at "W";cases h1:rightP S with
 | false=>
   rw[h1,if_pos rfl]at k;refine iteT ?_;walk_at "W";exact⟨by show(1:Nat)<=sizeLine;decide,fun q hq=>k _ _ (Same.new hq) ⟨q,rfl,upd_same⟩⟩
 | true=>
   rw[h1,if_neg (fun z=>nomatch z)]at k;refine iteF ?_;walk_at "W";refine⟨ve,S,rfl,he,?_⟩;walk_at "W";cases h2:rightM S with
   | false=>
     rw[h2,if_pos rfl]at k;refine iteT ?_;walk_at "W";exact⟨by show(1:Nat)<=sizeLine;decide,fun q hq=>k _ _ (Same.new hq) ⟨q,rfl,upd_same⟩⟩
   | true=>
     rw[h2,if_neg (fun z=>nomatch z)]at k;refine iteF ?_;walk_at "W";exact wPairsF hS hB ht hf k
def BigD(d:PyData):Prop:=∀ S,d=stD S->Big S
def spSoundA:Sp:=fun vs H Q _=>∃(v:V) (d:PyData) (t:Addr) (f m:Int),vs=[v,.ref t]/\Any H v d/\Wd3 d/\BigD d/\H t=some (.tup [.int f,.int m])/\(0<=f/\f<=65535) /\ ∀ H' b,Same H H'->(isStateD d=false->b=false)->(isStateD d=true -> ∀ S,d=stD S->b=(faultOf f m S).isNone)->Q (.bl b) H'
theorem wSoundA{H:Hp}{Q:VK}{E:XK}{v:V}{d:PyData}{t:Addr}{f m:Int}(h1:Any H v d)(h2:Wd3 d)(h3:BigD d)(h4:H t=some (.tup [.int f,.int m]))(h5:0<=f/\f<=65535)(q:∀ H' b,Same H H'->(isStateD d=false->b=false)->(isStateD d=true -> ∀ S,d=stD S->b=(faultOf f m S).isNone)->Q (.bl b) H'):spSoundA ([v,.ref t]++[]) H Q E:=⟨v,d,t,f,m,rfl,h1,h2,h3,h4,h5,q⟩
theorem rowD_inj:∀{r s:MRow},rowD r=rowD s->r=s:=by
 intro r s h;unfold rowD at h;injection h with h
 induction r generalizing s with
 | nil=>cases s with
   | nil=>rfl
   | cons b s=>cases h
 | cons a r ih=>cases s with
   | nil=>cases h
   | cons b s=>
     rw[List.map_cons,List.map_cons]at h;injection h with h1 h2;injection h1 with h1;injection h1 with h1 h3;injection h1 with h1;injection h3 with h3;injection h3 with h3;rw[ih h2,show a=b from Prod.ext h1 h3]
theorem rowsD_inj:∀{r s:MRows},rowsD r=rowsD s->r=s:=by
 intro r s h;unfold rowsD at h;injection h with h
 induction r generalizing s with
 | nil=>cases s with
   | nil=>rfl
   | cons b s=>cases h
 | cons a r ih=>cases s with
   | nil=>cases h
   | cons b s=>
     rw[List.map_cons,List.map_cons]at h;injection h with h1 h2;rw[ih h2,rowD_inj h1]
theorem elD_inj{a b:Option MRows}(h:elD a=elD b):a=b:=by
 cases a with
 | none=>cases b with
   | none=>rfl
   | some B=>cases h
 | some A=>cases b with
   | none=>cases h
   | some B=>rw[rowsD_inj h]
theorem stD_inj{S T:Sta}(h:stD S=stD T):S=T:=by
 obtain⟨a,b,c⟩:=S;obtain⟨a',b',c'⟩:=T;unfold stD at h;injection h with h;injection h with h1 h;injection h with h2 h;injection h with h3 h;injection h2 with h2;have h1:elD a=elD a':=h1;have h3:rowsD c=rowsD c':=h3;rw[elD_inj h1,rowsD_inj h3,show b=b' from h2]
theorem q45_(d:Dfn K mg "is_sound" z37_ ["state","mixer"])(g:Gs K mg C CT)(q11_:Fn P w K mg base "is_state" 6 ["thing"] spStateA)(q2_:Fn P w K mg base "first_fault" 4 ["state","mixer"] spFaultF):Fn P w K mg base "is_sound" 7 ["state","mixer"] spSoundA:=by
 refine d.fn z96_ (fun vs H Q E h=>?_) (fun f cdv A outer s H vs Q E hr h=>?_)
 · obtain⟨v,dd,t,fa,mo,rfl,_⟩:=h
   rfl
 obtain⟨v,dd,t,fa,mo,rfl,hd,hw,hb,ht,hf,q⟩:=h;refine⟨_,(B.sone (B.ret (B.and (B.fn q11_ hr.up (B.cons (B.v 0) B.nil)) (B.one (B.cmp op_isN (B.fn q2_ hr.up (B.cons (B.v 0) (B.cons (B.v 1) B.nil))) B.non))))),?_⟩;walk_at "W";refine wStateA hd hw fun H1 s1=>?_;walk_at "W";cases e:isStateD dd with
 | false=>
   exact iteF (q _ _ s1 (fun _=>rfl) fun z=>by rw[e]at z;cases z)
 | true=>
   obtain⟨S,hS,eS⟩:=state_of hd e;refine iteT ?_;walk_at "W";refine wFaultF (hS.keep (SW.Same.tk s1)) (hb S eS) (s1 _ _ ht) hf fun v2 H2 s2 hv2=>?_;have fin:∀ b,b=(faultOf fa mo S).isNone->Q (.bl b) H2:=fun b eb=>q _ _ (s1.trans s2) (fun z=>by rw[e]at z;cases z) fun _ S' eS'=>by rw[← stD_inj (eS.symm.trans eS')];exact eb
   walk_at "W";refine⟨rfl,?_⟩;cases ef:faultOf fa mo S with
   | none=>
     rw[ef]at hv2 fin;rw[show v2=V.non from hv2];exact fin _ rfl
   | some fl=>
     rw[ef]at hv2 fin;obtain⟨u,rfl,hu⟩:=hv2;exact fin _ rfl
def spNearB:Sp:=fun vs H Q _=>∃(p c:Addr) (ks:List Int),vs=[.ref p,.ref c]/\Row H p/\c≠p/\H c=some (.lst (ks.map V.int))/\ks.length<=1000000/\(∀ k∈ks,0<=k/\k<=1000000000) /\ ∀ k H',0<=k->k<=1000000000->Row H' p->KeepBut p H H'->Q (.int k) H'
theorem wNearB{p c:Addr}{ks:List Int}{H:Hp}{Q:VK}{E:XK}(hp:Row H p)(hn:c≠p)(hc:H c=some (.lst (ks.map V.int)))(hl:ks.length<=1000000)(hb:∀ k∈ks,0<=k/\k<=1000000000)(k:∀ k H',0<=k->k<=1000000000->Row H' p->KeepBut p H H'->Q (.int k) H'):spNearB ([.ref p,.ref c]++[]) H Q E:=⟨p,c,ks,rfl,hp,hn,hc,hl,hb,k⟩
theorem q53_(d:Dfn K mg "_law_worth" z52_ ["row"])(q25_:Fn P w K mg base "_law_take" 1 ["row","many"] spTake):Fn P w K mg base "_law_worth" 2 ["row"] spWorth:=by
 refine d.fn z111_ (fun vs H Q E h=>?_) (fun f cdv A outer s H vs Q E hr h=>?_)
 · obtain⟨p,rfl,_⟩:=h
   rfl
 obtain⟨p,rfl,hp,k⟩:=h;refine⟨_,(B.sone (B.ret (B.ix ix_list (B.lst (B.cons B.int (B.cons (B.un un_neg B.int) (B.cons (B.op op_sub (B.fn q25_ hr.up (B.cons (B.v 0) (B.cons (B.op op_add (B.op op_mul B.int (B.op op_pow B.int B.int)) B.int) B.nil))) (B.op op_pow B.int B.int)) (B.cons (B.op op_pow B.int B.int) (B.cons (B.fn q25_ hr.up (B.cons (B.v 0) (B.cons B.int B.nil))) B.nil)))))) (B.fn q25_ hr.up (B.cons (B.v 0) (B.cons B.int B.nil)))))),?_⟩;walk_at "W";refine wTake hp (by decide) (by decide) fun r1 H1 a1 b1 R1 K1=>?_
 have e9:(10:Int) ^ (Int.toNat 9)=1000000000:=by decide
 walk_at "W";refine wTake R1 (by decide) (by decide) fun r2 H2 a2 b2 R2 K2=>?_
 walk_at "W";refine⟨by show(5:Nat)<=sizeLine;decide,fun q hq=>?_⟩
 walk_at "W";refine wTake (R2.new hq) (by decide) (by decide) fun r5 H5 a5 b5 R5 K5=>?_
 have e5:=K5 q _ (R2.ne0 hq).symm upd_same;obtain⟨v,hv,hm⟩:=atI_in (xs:=[V.int 0,V.int (-1),V.int (r1 - 10 ^ (Int.toNat 9)),V.int (10 ^ (Int.toNat 9)),V.int r2]) a5 b5;refine wIxL e5 hv ?_;obtain⟨z,rfl,z0,z1⟩:∃ z,v=V.int z /\ -1000000000<=z/\z<=1000000000:=by
  rw[e9]at hm b1;simp only[List.mem_cons,List.not_mem_nil,or_false]at hm;rcases hm with rfl | rfl | rfl | rfl | rfl
  · exact⟨_,rfl,by decide,by decide⟩
  · exact⟨_,rfl,by decide,by decide⟩
  · exact⟨_,rfl,by omega,by omega⟩
  · exact⟨_,rfl,by decide,by decide⟩
  exact⟨_,rfl,by omega,by omega⟩
 exact k z H5 z0 z1 R5 ((K1.trans K2).trans ((KeepBut.new hq).trans K5))
def mvS(mv:Int):Bool->Int:=fun b=>if b then mv else 0
def spShelfFault:Sp:=fun vs H Q _=>∃(sh:Bool) (vr:V) (mv:Int) (t sa:Addr) (f m:Int) (R:MRows) (ks:List Int),vs=[.str (shN sh),vr,.int mv,.ref t,.ref sa]/\RowsV H vr R/\H t=some (.tup [.int f,.int m])/\(0<=f/\f<=65535)/\H sa=some (.dK (kbs ks))/\tot R+ks.length<=100000/\R.length<=100000 /\
 ∀ v' H',KeepBut sa H H'->FltV H' v' (firstP f m (fun _=>R.length) (mvS mv) ks (tripF sh 0 R))->(firstP f m (fun _=>R.length) (mvS mv) ks (tripF sh 0 R)=none->H' sa=some (.dK (kbs (ks++(tripF sh 0 R).map (·.2.2)))))->Q v' H'
theorem wShelfFault{H:Hp}{Q:VK}{E:XK}{sh:Bool}{vr:V}{mv:Int}{t sa:Addr}{f m:Int}{R:MRows}{ks:List Int}{nm:PySem.Str}(h0:nm=shN sh)(h1:RowsV H vr R)(h2:H t=some (.tup [.int f,.int m]))(h3:0<=f/\f<=65535)(h4:H sa=some (.dK (kbs ks)))(h5:tot R+ks.length<=100000)(h6:R.length<=100000)
 (k:∀ v' H',KeepBut sa H H'->FltV H' v' (firstP f m (fun _=>R.length) (mvS mv) ks (tripF sh 0 R))->(firstP f m (fun _=>R.length) (mvS mv) ks (tripF sh 0 R)=none->H' sa=some (.dK (kbs (ks++(tripF sh 0 R).map (·.2.2)))))->Q v' H'):spShelfFault ([.str nm,vr,.int mv,.ref t,.ref sa]++[]) H Q E:=⟨sh,vr,mv,t,sa,f,m,R,ks,by rw[h0];rfl,h1,h2,h3,h4,h5,h6,k⟩
theorem drop_cons{α:Type}{xs:List α}{i:Nat}{v:α}(h:xs[i]?=some v):xs.drop i=v::xs.drop (i+1):=by
 have hi:i < xs.length:=(List.getElem?_eq_some_iff.mp h).1;rw[List.drop_eq_getElem_cons hi];rw[List.getElem?_eq_getElem hi]at h;rw[Option.some.inj h]
theorem firstP_congr{f m:Int}{sz sz':Bool->Nat}{mv mv':Bool->Int}:∀(ts:List Trip) (ks:List Int),(∀ t∈ts,sz t.1=sz' t.1/\mv t.1=mv' t.1)->firstP f m sz mv ks ts=firstP f m sz' mv' ks ts
 | [],_,_=>rfl
 | (sh,i,k)::ts,ks,h=>by
   have h0:=h (sh,i,k) (List.mem_cons_self ..);have h1:sz sh=sz' sh:=h0.1;have h2:mv sh=mv' sh:=h0.2;rw[firstP_cons,firstP_cons,h1,h2,firstP_congr ts _ fun t ht=>h t (List.mem_cons_of_mem _ ht)]
theorem firstP_shelf{f m:Int}{S:Sta}{sh:Bool}{R:MRows}{ks:List Int}(h1:szOf S sh=R.length):firstP f m (fun _=>R.length) (mvS S.mv) ks (tripF sh 0 R)=firstP f m (szOf S) (mvOf S) ks (tripF sh 0 R):=
 firstP_congr _ _ fun t ht=>by
  rw[(mem_tripF ht).1];exact⟨h1.symm,rfl⟩
def spDueF:Sp:=spFaultF
theorem Big.len{S:Sta}:True:=trivial
def Fine(S:Sta):Prop:=Big S/\(S.el.getD []).length<=100000/\S.nw.length<=100000
def spDue:Sp:=fun vs H Q _=>∃(v:V) (t:Addr) (f m:Int) (S:Sta),vs=[v,.ref t]/\StV H v S/\Fine S/\H t=some (.tup [.int f,.int m])/\(0<=f/\f<=65535) /\ ∀ v' H',Same H H'->FltV H' v' (faultOf f m S)->Q v' H'
theorem wDue{H:Hp}{Q:VK}{E:XK}{v:V}{t:Addr}{f m:Int}{S:Sta}(h1:StV H v S)(h2:Fine S)(h3:H t=some (.tup [.int f,.int m]))(h4:0<=f/\f<=65535)(k:∀ v' H',Same H H'->FltV H' v' (faultOf f m S)->Q v' H'):spDue ([v,.ref t]++[]) H Q E:=⟨v,t,f,m,S,rfl,h1,h2,h3,h4,k⟩
def SzR(n:Nat)(R:MRows):Prop:=R.length<=n/\tot R<=n
def SzE(n:Nat)(e:Option MRows):Prop:=SzR n (e.getD [])
theorem SzR.mono{n m:Nat}{R:MRows}(h:SzR n R)(k:n<=m):SzR m R:=⟨Nat.le_trans h.1 k,Nat.le_trans h.2 k⟩
theorem tot_app(A B:MRows):tot (A++B)=tot A+tot B:=by
 unfold tot;rw[List.map_append,List.sum_append]
theorem tot_drop(R:MRows)(j:Nat):tot (R.drop j)<=tot R:=by
 have e:tot R=tot (R.take j)+tot (R.drop j):=by rw[← tot_app,List.take_append_drop]
 omega
theorem tot_set{R:MRows}{i:Nat}{r q:MRow}(h:R[i]?=some q):tot (R.set i r)+q.length=tot R+r.length:=by
 have hi:i < R.length:=(List.getElem?_eq_some_iff.mp h).1;have e1:R.set i r=R.take i++[r]++R.drop (i+1):=by rw[List.set_eq_take_append_cons_drop,if_pos hi];simp
 have e2:R=R.take i++[q]++R.drop (i+1):=by
  rw[← take_snocF h,List.take_append_drop]
 have h1:tot [r]=r.length:=by unfold tot;simp
 have h2:tot [q]=q.length:=by unfold tot;simp
 have e3:tot R=tot (R.take i)+q.length+tot (R.drop (i+1)):=by
  have:=congrArg tot e2;rw[tot_app,tot_app,h2]at this;exact this
 rw[e1,tot_app,tot_app,h1];omega
def spOtherR:Sp:=fun vs H Q _=>∃(p:Addr) (v:V) (e:Option MRows) (n:Nat),vs=[.ref p,v]/\Row H p/\ElV H v e/\SzE n e/\n<=5000 /\ ∀ v' H' e',ElV H' v' e'->SzE (2*n+8) e'->Row H' p->KeepBut p H H'->Q v' H'
theorem wOtherR{H:Hp}{Q:VK}{E:XK}{p:Addr}{v:V}{e:Option MRows}{n:Nat}(h1:Row H p)(h2:ElV H v e)(h3:SzE n e)(h4:n<=5000)(k:∀ v' H' e',ElV H' v' e'->SzE (2*n+8) e'->Row H' p->KeepBut p H H'->Q v' H'):spOtherR ([.ref p,v]++[]) H Q E:=⟨p,v,e,n,rfl,h1,h2,h3,h4,k⟩
theorem rowTK{H H':Hp}{p:Addr}(r:Row H p)(k:KeepBut p H H'):TK H H':=fun a xs e=>k _ _ (by
 obtain⟨x,y,z,h,_⟩:=r;exact ne_of e h (by intro q;cases q)) e
theorem pr_dat{K:W.Frag}{H:Hp}{v:V}{p:Int×Int}(h:PrV H v p):DatV K H v (.tuple [.int p.1,.int p.2]):=by
 obtain⟨a,rfl,h⟩:=h;exact .tup (SqT.of h) (.cons (.int _) (.cons (.int _) .nil))
theorem paired_erase{α β:Type}{F:α -> β -> Prop}:∀{xs:List α}{ys:List β} (j:Nat),Paired F xs ys->Paired F (xs.eraseIdx j) (ys.eraseIdx j)
 | _,_,j,.nil=>by cases j <;> exact .nil
 | _,_,0,.cons _ t=>t
 | _,_,j+1,.cons h t=>.cons h (paired_erase j t)
def cutM(R:MRows)(lo hi:Option Int):MRows:=(R.drop (HT.sIx R.length 0 lo)).take (HT.sIx R.length R.length hi - HT.sIx R.length 0 lo)
theorem cutM_ok{H:Hp}{xs:List V}{R:MRows}(h:Paired (RowV H) xs R)(lo hi:Option Int):Paired (RowV H) (cutV xs lo hi) (cutM R lo hi):=by
 unfold cutV cutM;rw[paired_len h];exact paired_take _ (paired_drop _ h)
theorem cutM_sz{n:Nat}{R:MRows}(h:SzR n R)(lo hi:Option Int):SzR n (cutM R lo hi):=by
 unfold cutM;refine⟨?_,Nat.le_trans (tot_take _ _) (Nat.le_trans (tot_drop _ _) h.2)⟩;have:=h.1;rw[List.length_take,List.length_drop];omega
theorem SzR.app{n:Nat}{A B:MRows}(h1:SzR n A)(h2:SzR n B):SzR (2*n) (A++B):=by
 refine⟨?_,?_⟩
 · rw[List.length_append];have:=h1.1;have:=h2.1;omega
 rw[tot_app];have:=h1.2;have:=h2.2;omega
theorem pr_deep(a b:Int):(PyData.tuple [PyData.int a,PyData.int b]).depth<=1:=by simp[PyData.depth,PyData.depthAll]
theorem prs_layB:∀ r:MRow,PyData.canLayAll0 (r.map fun p=>PyData.tuple [.int p.1,.int p.2])=true:=pairs_lay
theorem prs_deepB(r:MRow):(PyData.list (r.map fun p=>PyData.tuple [.int p.1,.int p.2])).depth<=60:=by
 have:=pairs_deep r;simp only[PyData.depth];omega
theorem ne_oL{H H':Hp}{p q:Addr}(r:Row H p)(s:Same H H')(h:H' q=none):q≠p:=((r.same s).ne0 h).symm
structure OI(H0:Hp)(p D:Addr)(ls:List Addr)(N j:Nat)(H:Hp)(R:MRows):Prop where
 r:Row H p
 k:KeepBut p H0 H
 l:LR H D R ls
 nD:D≠p
 D0:H0 D=none
 nl:∀ y∈ls,y≠p/\H0 y=none
 z1:R.length=ls.length
 z2:tot R<=N+j
theorem OI.keepP{H0 H H':Hp}{p D:Addr}{ls:List Addr}{N j:Nat}{R:MRows}(I:OI H0 p D ls N j H R)(R':Row H' p)(k:KeepBut p H H'):OI H0 p D ls N j H' R:=
 ⟨R',I.k.trans k,I.l.keep (G:=fun b=>b=p) (fun b o n e=>k b o n e) I.nD (fun b hb=>(I.nl b hb).1) (fun b xs e=>I.r.ne e),I.nD,I.D0,I.nl,I.z1,I.z2⟩
theorem OI.same{H0 H H':Hp}{p D:Addr}{ls:List Addr}{N j:Nat}{R:MRows}(I:OI H0 p D ls N j H R)(s:Same H H'):OI H0 p D ls N j H' R:=I.keepP (I.r.same s) (SW.Same.but s)
theorem OI.set{H0 H:Hp}{p D:Addr}{ls:List Addr}{N j j':Nat}{R:MRows}{i:Nat}{l:Addr}{xs:List V}{r q:MRow}(I:OI H0 p D ls N j H R)(hl:ls[i]?=some l)(hq:R[i]?=some q)(h2:Prs H xs r)(hz:r.length+j<=q.length+j') :
 OI H0 p D ls N j' (upd H l (.lst xs)) (R.set i r):=by
 have hm:=List.mem_of_getElem? hl;obtain⟨ys,hly⟩:=I.l.live hm;have tk:TK H (upd H l (.lst xs)):=fun a zs e=>by rw[upd_ne (ne_of e hly (by intro z;cases z))];exact e
 refine⟨?_,fun b o n e=>?_,I.l.set hl upd_same (h2.keep tk) (fun b o n e=>by rw[upd_ne n];exact e),I.nD,I.D0,I.nl,by rw[List.length_set];exact I.z1,?_⟩
 · obtain⟨a,b,c,h,g⟩:=I.r
   exact⟨a,b,c,by rw[upd_ne (I.nl l hm).1.symm];exact h,g⟩
 · rw[upd_ne (ne_of_none e (I.nl l hm).2)]
   exact I.k _ _ n e
 have:=tot_set (r:=r) hq;have:=I.z2;omega
def SzS(n:Nat)(S:Sta):Prop:=SzE n S.el/\SzR n S.nw
theorem SzS.fine{n:Nat}{S:Sta}(h:SzS n S)(hn:n<=5000):Fine S:=by
 have h1:(S.el.getD []).length<=n/\tot (S.el.getD [])<=n:=h.1;have h2:S.nw.length<=n/\tot S.nw<=n:=h.2;exact⟨by unfold Big;omega,by omega,by omega⟩
def spBentR:Sp:=fun vs H Q _=>∃(p:Addr) (v:V) (S:Sta) (n:Nat),vs=[.ref p,v]/\Row H p/\StV H v S/\SzS n S/\n<=2000 /\ ∀ v' H' S',StV H' v' S'->SzS (2*n+8) S'->Row H' p->KeepBut p H H'->Q v' H'
theorem wBentR{H:Hp}{Q:VK}{E:XK}{p:Addr}{v:V}{S:Sta}{n:Nat}(h1:Row H p)(h2:StV H v S)(h3:SzS n S)(h4:n<=2000)(k:∀ v' H' S',StV H' v' S'->SzS (2*n+8) S'->Row H' p->KeepBut p H H'->Q v' H'):spBentR ([.ref p,v]++[]) H Q E:=⟨p,v,S,n,rfl,h1,h2,h3,h4,k⟩
theorem or_elT{K:W.Frag}{σ:L2.St}{H:Hp}{Q:VK}{x:V}{el:Option MRows}{tb:TE}(h:ElV H x el)(kb:tb σ H Q)(k:∀ R,el=some R->RowsV H x R->Q x H) :
 (x=.non/\tb σ H Q) ∨ ∃ a xs,x=.ref a/\SqT K H a xs/\if xs.isEmpty=true then tb σ H Q else Q x H:=by
 cases el with
 | none=>exact .inl ⟨h,kb⟩
 | some R=>
   have hh:RowsV H x R:=h;obtain⟨a,xs,rfl,ha,hp⟩:=id hh;refine .inr ⟨a,xs,rfl,SqT.of ha,?_⟩;cases xs with
   | nil=>exact iteT kb
   | cons y ys=>exact iteF (k R rfl hh)
theorem rep_bare(n:Nat)(H:Hp)(t:Addr)(h:H t=some (.tup [])):Paired (RowV H) (List.replicate n [V.ref t]).flatten (List.replicate n []):=by
 induction n with
 | zero=>exact .nil
 | succ n ih=>rw[List.replicate_succ,List.flatten_cons,List.replicate_succ];exact .cons ⟨t,[],rfl,h,.nil⟩ ih
theorem tot_bare(n:Nat):tot (List.replicate n [])=0:=by
 unfold tot;rw[List.map_replicate];simp
structure TS(H0:Hp)(p rl:Addr)(n:Nat)(q:Nat->Addr)(ls:Nat->List Addr)(R:Nat->MRows)(H:Hp):Prop where
 r:Row H p
 k:KeepBut p H0 H
 top:H rl=some (.lst ((List.range n).map fun s=>V.ref (q s)))
 lr:∀ s,s < n->LR H (q s) (R s) (ls s)
 x1:∀ s s',s < n->s' < n->s≠s' -> ∀ l∈ls s,l∉ls s'
 x2:∀ s s',s < n->s' < n -> ∀ l∈ls s,l≠q s'
 x3:∀ s,s < n -> ∀ l∈ls s,l≠rl/\l≠p/\H0 l=none
 x4:rl≠p
 x5:∀ s,s < n->q s≠p
section
variable{H0 H H':Hp}{p rl:Addr}{n:Nat}{q:Nat->Addr}{ls:Nat->List Addr}{R:Nat->MRows}
theorem TS.keepP(I:TS H0 p rl n q ls R H)(R':Row H' p)(k:KeepBut p H H'):TS H0 p rl n q ls R H':=
 ⟨R',I.k.trans k,k _ _ I.x4 I.top,fun s hs=>(I.lr s hs).keep (G:=fun b=>b=p) (fun b o n e=>k b o n e) (I.x5 s hs) (fun b hb=>(I.x3 s hs b hb).2.1) (fun b xs e=>I.r.ne e),I.x1,I.x2,I.x3,I.x4,I.x5⟩
theorem TS.same(I:TS H0 p rl n q ls R H)(s:Same H H'):TS H0 p rl n q ls R H':=I.keepP (I.r.same s) (SW.Same.but s)
theorem TS.keepD{sd:Addr}{kv kv':List (Key×V)}(I:TS H0 p rl n q ls R H)(hsd:H sd=some (.dK kv))(h0:H0 sd=none):TS H0 p rl n q ls R (upd H sd (.dK kv')):=by
 have kk:∀ b o,b≠sd->H b=some o->upd H sd (.dK kv') b=some o:=fun b o n e=>by rw[upd_ne n];exact e
 refine⟨?_,fun b o n e=>kk _ _ (ne_of_none e h0) (I.k _ _ n e),kk _ _ (ne_of I.top hsd (by intro z;cases z)) I.top,fun s hs=>(I.lr s hs).keep (G:=fun b=>b=sd) (fun b o n e=>kk b o n e) (ne_of (I.lr s hs).top hsd (by intro z;cases z)) (fun b hb=>?_) (fun b xs e=>ne_of e hsd (by intro z;cases z)),I.x1,I.x2,I.x3,I.x4,I.x5⟩
 · obtain⟨a,b,c,h,g⟩:=I.r
   exact⟨a,b,c,kk _ _ (ne_of h hsd (by intro z;cases z)) h,g⟩
 obtain⟨xs,h⟩:=(I.lr s hs).live hb;exact ne_of h hsd (by intro z;cases z)
theorem TS.set{s i:Nat}{l:Addr}{xs:List V}{r:MRow}(I:TS H0 p rl n q ls R H)(hs:s < n)(hl:(ls s)[i]?=some l)(h2:Prs H xs r):TS H0 p rl n q ls (fun s'=>if s'=s then(R s).set i r else R s') (upd H l (.lst xs)):=by
 have hm:=List.mem_of_getElem? hl;obtain⟨ys,hly⟩:=(I.lr s hs).live hm;have kk:∀ b o,b≠l->H b=some o->upd H l (.lst xs) b=some o:=fun b o n e=>by rw[upd_ne n];exact e
 have tk:TK H (upd H l (.lst xs)):=fun a zs e=>kk _ _ (ne_of e hly (by intro z;cases z)) e
 obtain⟨y1,y2,y3⟩:=I.x3 s hs l hm;refine⟨?_,fun b o n e=>kk _ _ (ne_of_none e y3) (I.k _ _ n e),kk _ _ y1.symm I.top,fun s' hs'=>?_,I.x1,I.x2,I.x3,I.x4,I.x5⟩
 · obtain⟨a,b,c,h,g⟩:=I.r
   exact⟨a,b,c,kk _ _ y2.symm h,g⟩
 by_cases e:s'=s
 · subst e
   rw[if_pos rfl];exact(I.lr s' hs).set hl upd_same (h2.keep tk) kk
 rw[if_neg e];exact(I.lr s' hs').keep (G:=fun b=>b=l) (fun b o n e=>kk b o n e) (I.x2 s s' hs hs' l hm).symm (fun b hb z=>I.x1 s s' hs hs' (fun y=>e y.symm) l hm (z ▸ hb)) (fun b zs e=>ne_of e hly (by intro z;cases z))
end
def kall(R:MRows):List Int:=R.flatMap fun r=>r.map (·.1)
theorem kall_app(A B:MRows):kall (A++B)=kall A++kall B:=List.flatMap_append
theorem kall_one(r:MRow):kall [r]=r.map (·.1):=by unfold kall;rw[List.flatMap_cons,List.flatMap_nil,List.append_nil]
theorem tripR_keys(sh:Bool)(i:Nat)(r:MRow):(tripR sh i r).map (·.2.2)=r.map (·.1):=by
 unfold tripR;rw[List.map_map];rfl
theorem tripF_keys(sh:Bool):∀(R:MRows) (i:Nat),(tripF sh i R).map (·.2.2)=kall R
 | [],_=>rfl
 | r::R,i=>by
   show(tripR sh i r++tripF sh (i+1) R).map (·.2.2)=r.map (·.1)++kall R;rw[List.map_append,tripR_keys,tripF_keys sh R]
theorem kall_set{R:MRows}{i:Nat}{r:MRow}{pr:Int×Int}(h:R[i]?=some r):(kall (R.set i (r++[pr]))).Perm (pr.1::kall R):=by
 have hi:i < R.length:=(List.getElem?_eq_some_iff.mp h).1;have e1:R.set i (r++[pr])=R.take i++[r++[pr]]++R.drop (i+1):=by rw[List.set_eq_take_append_cons_drop,if_pos hi];simp
 have e2:R=R.take i++[r]++R.drop (i+1):=by rw[← take_snocF h,List.take_append_drop]
 have e3:kall R=kall (R.take i)++r.map (·.1)++kall (R.drop (i+1)):=by
  have:=congrArg kall e2;rw[kall_app,kall_app,kall_one]at this;exact this
 rw[e1,e3,kall_app,kall_app,kall_one,List.map_append];show(kall (R.take i)++(r.map (·.1)++[pr.1])++kall (R.drop (i+1))).Perm _;rw[← List.append_assoc,List.append_assoc,List.singleton_append];exact List.perm_middle
def InPl(f m mv:Int)(R:MRows):Prop:=∀(i:Nat) (r:MRow),R[i]?=some r -> ∀ x∈r,(x.1*f+m) % 65536 % (R.length:Int)=i /\ ¬ (i:Int) < mv
theorem InPl.set{f m mv:Int}{R:MRows}{i:Nat}{r:MRow}{pr:Int×Int}(h:InPl f m mv R)(hr:R[i]?=some r)(h1:(pr.1*f+m) % 65536 % (R.length:Int)=i)(h2:¬ (i:Int) < mv):InPl f m mv (R.set i (r++[pr])):=by
 have hi:i < R.length:=(List.getElem?_eq_some_iff.mp hr).1;intro j r' e x hx;rw[List.length_set];by_cases z:i=j
 · subst z
   rw[List.getElem?_set_self hi]at e;cases e;rcases List.mem_append.mp hx with y | y
   · exact h i r hr x y
   rw[List.mem_singleton.mp y];exact⟨h1,h2⟩
 rw[List.getElem?_set_ne z]at e;exact h j r' e x hx
theorem firstP_none{f m:Int}{sz:Bool->Nat}{mv:Bool->Int}:∀(ts:List Trip) (ks:List Int),(∀ t∈ts,(t.2.2*f+m) % 65536 % (sz t.1:Int)=t.2.1 /\ ¬ (t.2.1:Int) < mv t.1)->(ks++ts.map (·.2.2)).Nodup->firstP f m sz mv ks ts=none
 | [],_,_,_=>rfl
 | (sh,i,k)::ts,ks,h,nd=>by
   have h0:=h (sh,i,k) (List.mem_cons_self ..);have h1:(k*f+m) % 65536 % (sz sh:Int)=i:=h0.1;have h2:¬ (i:Int) < mv sh:=h0.2;rw[firstP_cons,if_neg (fun z=>z h1),if_neg h2];have e:ks++((sh,i,k)::ts).map (·.2.2)=(ks++[k])++ts.map (·.2.2):=by rw[List.map_cons,List.append_assoc];rfl
   rw[e]at nd;have h3:k∉ks:=fun z=>by
    have nd2:=(List.nodup_append.mp nd).1;exact(List.nodup_append.mp nd2).2.2 k z k (List.mem_singleton.mpr rfl) rfl
   rw[if_neg h3];exact firstP_none ts _ (fun t ht=>h t (List.mem_cons_of_mem _ ht)) nd
theorem tripF_inpl{f m mv:Int}{R:MRows}(h:InPl f m mv R)(sh:Bool):∀ t∈tripF sh 0 R,(t.2.2*f+m) % 65536 % (R.length:Int)=t.2.1 /\ ¬ (t.2.1:Int) < mv:=by
 have gen:∀(A:MRows) (i:Nat),(∀ j r,A[j]?=some r->R[i+j]?=some r) -> ∀ t∈tripF sh i A,(t.2.2*f+m) % 65536 % (R.length:Int)=t.2.1 /\ ¬ (t.2.1:Int) < mv:=by
  intro A
  induction A with
  | nil=>intro i _ t ht;cases ht
  | cons r A ih=>
    intro i hA t ht;rcases List.mem_append.mp (show t∈tripR sh i r++tripF sh (i+1) A from ht)with z | z
    · obtain⟨x,hx,rfl⟩:=List.mem_map.mp z
      exact h i r (hA 0 r rfl) x hx
    exact ih (i+1) (fun j r' e=>by have:=hA (j+1) r' e;rw[show i+1+j=i+(j+1) by omega];exact this) t z
 exact gen R 0 fun j r e=>by rw[Nat.zero_add];exact e
theorem right_of{f m:Int}{S:Sta}(h1:rightP S=true)(h2:rightM S=true)(h3:InPl f m S.mv (S.el.getD []))(h4:InPl f m 0 S.nw)(h5:(kall (S.el.getD [])++kall S.nw).Nodup):faultOf f m S=none:=by
 unfold faultOf;rw[if_neg (by rw[h1];intro z;cases z),if_neg (by rw[h2];intro z;cases z)]
 refine firstP_none _ _ (fun t ht=>?_) ?_
 · rcases List.mem_append.mp ht with z | z
   · have:=tripF_inpl h3 true t z
     rw[(mem_tripF z).1];exact this
   have:=tripF_inpl h4 false t z;rw[(mem_tripF z).1];exact this
 rw[List.nil_append];unfold tripS;rw[List.map_append,tripF_keys,tripF_keys];exact h5
structure TabOk(f m:Int)(S:Sta):Prop where
 h1:rightP S=true
 h2:rightM S=true
 h3:InPl f m S.mv (S.el.getD [])
 h4:InPl f m 0 S.nw
 h5:(kall (S.el.getD [])++kall S.nw).Nodup
 bb:∀ p∈(S.el.getD []).flatten++S.nw.flatten,InB p
 tt:tot (S.el.getD [])+tot S.nw<=39
theorem flat_set{R:MRows}{j:Nat}{r:MRow}{pr:Int×Int}(h:R[j]?=some r){p:Int×Int}(hp:p∈(R.set j (r++[pr])).flatten):p∈R.flatten∨p=pr:=by
 obtain⟨r',hr',hp'⟩:=List.mem_flatten.mp hp;rcases List.mem_or_eq_of_mem_set hr' with z | z
 · exact .inl (List.mem_flatten.mpr ⟨r',z,hp'⟩)
 rw[z]at hp';rcases List.mem_append.mp hp' with y | y
 · exact .inl (List.mem_flatten.mpr ⟨r,List.mem_of_getElem? h,y⟩)
 exact .inr (List.mem_singleton.mp y)
theorem flat_bare(n:Nat):(List.replicate n ([]:MRow)).flatten=[]:=by
 induction n with
 | zero=>rfl
 | succ n ih=>rw[List.replicate_succ,List.flatten_cons,ih];rfl
def spTabSt:Sp:=fun vs H Q _=>∃(p t:Addr) (f m:Int),vs=[.ref p,.ref t]/\Row H p/\H t=some (.tup [.int f,.int m])/\(0<=f/\f<=65535) /\ ∀ v' H' S,StV H' v' S->SzS 64 S->TabOk f m S->Row H' p->KeepBut p H H'->Q v' H'
theorem wTabSt{H:Hp}{Q:VK}{E:XK}{p t:Addr}{f m:Int}(h1:Row H p)(h2:H t=some (.tup [.int f,.int m]))(h3:0<=f/\f<=65535)(k:∀ v' H' S,StV H' v' S->SzS 64 S->TabOk f m S->Row H' p->KeepBut p H H'->Q v' H'):spTabSt ([.ref p,.ref t]++[]) H Q E:=⟨p,t,f,m,rfl,h1,h2,h3,k⟩
theorem LR.bare{H:Hp}{D:Addr}{ls:List Addr}{n:Nat}(h1:H D=some (.lst (ls.map V.ref)))(h2:ls.length=n)(nd:ls.Nodup)(g:∀ y∈ls,H y=some (.lst [])/\y≠D):LR H D (List.replicate n []) ls:=
 ⟨h1,by rw[h2,List.length_replicate],nd,fun z=>(g D z).2 rfl,fun i y r e1 e2=>by
  have er:r=[]:=List.eq_of_mem_replicate (List.mem_of_getElem? e2);subst er;exact⟨[],(g y (List.mem_of_getElem? e1)).1,.nil⟩⟩
theorem inpl_bare{f m mv:Int}(n:Nat):InPl f m mv (List.replicate n []):=fun i r e x hx=>by
 have er:r=[]:=List.eq_of_mem_replicate (List.mem_of_getElem? e);subst er;cases hx
theorem kall_bare(n:Nat):kall (List.replicate n [])=[]:=by
 induction n with
 | zero=>rfl
 | succ n ih=>rw[List.replicate_succ];show[]++kall (List.replicate n [])=[];rw[ih];rfl
structure TV where
 R:Nat->MRows
 ks:List Int
structure TI_(H0:Hp)(p rl sd:Addr)(n:Nat)(q:Nat->Addr)(ls:Nat->List Addr)(sz:Nat->Nat)(f m mv:Int)(i:Nat)(x:TV)(H:Hp):Prop where
 t:TS H0 p rl n q ls x.R H
 sd:H sd=some (.dK (kbs x.ks))
 kl:x.ks.length<=i
 len:∀ s,(x.R s).length=sz s
 p0:InPl f m mv (x.R 0)
 p1:InPl f m 0 (x.R 1)
 nd:(kall (x.R 0)++kall (x.R 1)).Nodup
 inn:∀ k∈kall (x.R 0)++kall (x.R 1),k∈x.ks
 tt:tot (x.R 0)+tot (x.R 1)<=i
 bb:∀ p∈(x.R 0).flatten++(x.R 1).flatten,InB p
section
variable{H0 H H':Hp}{p rl sd:Addr}{n:Nat}{q:Nat->Addr}{ls:Nat->List Addr}{sz:Nat->Nat}{f m mv:Int}{i:Nat}{x:TV}
theorem TI_.keepP(I:TI_ H0 p rl sd n q ls sz f m mv i x H)(R':Row H' p)(k:KeepBut p H H'):TI_ H0 p rl sd n q ls sz f m mv i x H':=
 ⟨I.t.keepP R' k,k _ _ (by obtain⟨a,b,c,h,_⟩:=I.t.r;exact ne_of I.sd h (by intro z;cases z)) I.sd,I.kl,I.len,I.p0,I.p1,I.nd,I.inn,I.tt,I.bb⟩
theorem TI_.same(I:TI_ H0 p rl sd n q ls sz f m mv i x H)(s:Same H H'):TI_ H0 p rl sd n q ls sz f m mv i x H':=I.keepP (I.t.r.same s) (SW.Same.but s)
theorem TI_.next(I:TI_ H0 p rl sd n q ls sz f m mv i x H):TI_ H0 p rl sd n q ls sz f m mv (i+1) x H:=⟨I.t,I.sd,Nat.le_succ_of_le I.kl,I.len,I.p0,I.p1,I.nd,I.inn,Nat.le_succ_of_le I.tt,I.bb⟩
end
theorem perm_mid(a:Int)(A B:List Int):(A++a::B).Perm (a::(A++B)):=List.perm_middle
theorem nodup_new{A B A' B' ks:List Int}{k:Int}(h:(A++B).Nodup)(hin:∀ z∈A++B,z∈ks)(hk:k∉ks)(hp:(A'++B').Perm (k::(A++B))):(A'++B').Nodup /\ ∀ z∈A'++B',z∈ks++[k]:=by
 refine⟨hp.nodup_iff.mpr (List.nodup_cons.mpr ⟨fun z=>hk (hin k z),h⟩),fun z hz=>?_⟩;rcases List.mem_cons.mp (hp.mem_iff.mp hz)with rfl | y
 · exact List.mem_append_right _ (List.mem_singleton.mpr rfl)
 exact List.mem_append_left _ (hin z y)
theorem q48_(d:Dfn K mg "_law_table_state" z50_ ["row","mixer"])(g:Gs K mg C CT)(q25_:Fn P w K mg base "_law_take" 1 ["row","many"] spTake)(q18_:Fn P w K mg base "_law_key" 2 ["row"] spKey)(q26_:Fn P w K mg base "_law_worth" 2 ["row"] spWorth):Fn P w K mg base "_law_table_state" 3 ["row","mixer"] spTabSt:=by
 refine d.fn z109_ (fun vs H Q E h=>?_) (fun f cdv A outer s H vs Q E hr h=>?_)
 · obtain⟨p,t,f,m,rfl,_⟩:=h
   rfl
 obtain⟨p,t,fa,mo,rfl,hp,ht,hf,k⟩:=h;have lim:sizeLine=16777216:=sizeLine_eq;refine⟨_,(B.scons (B.set 2 z109_.nd (B.ix ix_list (B.lst (B.cons B.int (B.cons B.int (B.cons B.int (B.cons B.int B.nil))))) (B.fn q25_ hr.up (B.cons (B.v 0) (B.cons B.int B.nil)))))
  (B.scons (B.set 3 z109_.nd (B.ix ix_list (B.lst (B.cons B.non (B.cons (B.op op_mul B.int (B.v 2)) (B.cons (B.op op_fdivL (B.v 2) B.int) B.nil)))) (B.fn q25_ hr.up (B.cons (B.v 0) (B.cons B.int B.nil)))))
  (B.scons (B.ifs (B.tcmp op_eq (B.v 3) B.int) (B.sone (B.set 3 z109_.nd B.int)) B.snil)
  (B.scons (B.set 4 z109_.nd B.int)
  (B.scons (B.set 5 z109_.nd (B.lst (B.cons (SW.B.comp [] ["place"] (SW.CompScope.of rfl rfl (by decide +kernel) (by decide +kernel) rfl trivial rfl rfl rfl) (by decide +kernel) (B.irange g.b_range (B.cons (B.v 2) B.nil)) (fun _ _ _ _=>(B.lst B.nil))) B.nil)))
  (B.scons (B.ifs (B.tcmp op_notN (B.v 3) B.non) (B.scons (B.set 4 z109_.nd (B.fn q25_ hr.up (B.cons (B.v 0) (B.cons (B.v 2) B.nil))))
  (B.sone (B.expr (B.m PySem.F.plainAttrs_list PySem.F.slot_list_append PySem.F.type_list_append mt_append (B.v 5) (B.cons (SW.B.comp [] ["place"] (SW.CompScope.of rfl rfl (by decide +kernel) (by decide +kernel) rfl trivial rfl rfl rfl) (by decide +kernel) (B.irange g.b_range (B.cons (B.v 3) B.nil)) (fun _ _ _ _=>(B.lst B.nil))) B.nil))))) B.snil)
  (B.scons (B.set 6 z109_.nd B.dnew)
  (B.scons (B.fors (B.irange g.b_range (B.cons (B.fn q25_ hr.up (B.cons (B.v 0) (B.cons (B.ix ix_list (B.lst (B.cons B.int (B.cons B.int B.nil))) (B.fn q25_ hr.up (B.cons (B.v 0) (B.cons B.int B.nil)))) B.nil))) B.nil)) (B.gname (i:=7) z109_.nd) (B.scons (B.set 8 z109_.nd (B.fn q18_ hr.up (B.cons (B.v 0) B.nil)))
  (B.scons (B.set 9 z109_.nd (B.op op_mod (B.op op_add (B.op op_mul (B.v 8) (B.ix ix_tup (B.v 1) B.int)) (B.ix ix_tup (B.v 1) B.int)) B.int))
  (B.scons (B.set 10 z109_.nd (B.fn q25_ hr.up (B.cons (B.v 0) (B.cons (B.cB call_len_seq g.b_len SW.b_len (B.cons (B.v 5) B.nil)) B.nil))))
  (B.scons (B.ifs (B.tw (B.wand (B.tcmp op_eq (B.v 10) B.int) (B.wand1 (B.tcmp op_lt (B.op op_mod (B.v 9) (B.v 2)) (B.v 4))))) (B.sone (B.set 10 z109_.nd B.int)) B.snil)
  (B.sone (B.ifs (B.tdnotin (hu_of hr) (B.v 8) (B.v 6)) (B.scons (B.dput (hu_of hr) (B.v 6) (B.v 8) B.bl)
  (B.sone (B.expr (B.m PySem.F.plainAttrs_list PySem.F.slot_list_append PySem.F.type_list_append mt_append (B.ix ix_list (B.ix ix_list (B.v 5) (B.v 10)) (B.op op_mod (B.v 9) (B.cB call_len_seq g.b_len SW.b_len (B.cons (B.ix ix_list (B.v 5) (B.v 10)) B.nil)))) (B.cons (B.tup (B.cons (B.v 8) (B.cons (B.fn q26_ hr.up (B.cons (B.v 0) B.nil)) B.nil))) B.nil))))) B.snil)))))))
  (B.scons (SW.B.compSet 11 [] ["shelf"] (SW.CompScope.of rfl rfl (by decide +kernel) (by decide +kernel) rfl trivial rfl rfl rfl) (by decide +kernel) z109_.nd (B.ilist (B.v 5)) (fun _ _ _ _=>(B.cT (SW.call_tupleK K) g.b_tuple SW.b_tuple (B.cons (SW.B.comp [] ["one"] (SW.CompScope.of rfl rfl (by decide +kernel) (by decide +kernel) rfl trivial rfl rfl rfl) (by decide +kernel) (SW.B.ilistK K (B.v 0)) (fun _ _ _ _=>(B.cT (SW.call_tupleK K) g.b_tuple SW.b_tuple (B.cons (B.v 0) B.nil)))) B.nil))))
  (B.scons (B.ifs (B.tcmp op_eq (B.cB call_len_seq g.b_len SW.b_len (B.cons (B.v 11) B.nil)) B.int) (B.sone (B.ret (B.tup (B.cons B.non (B.cons B.int (B.cons (B.ix ix_list (B.v 11) B.int) B.nil)))))) B.snil)
  (B.sone (B.ret (B.tup (B.cons (B.ix ix_list (B.v 11) B.int) (B.cons (B.v 4) (B.cons (B.ix ix_list (B.v 11) B.int) B.nil)))))))))))))))),?_⟩
 walk_at "W";refine⟨by show(4:Nat)<=sizeLine;decide,fun L1 hL1=>?_⟩
 have i1:=Same.new (o:=.lst [.int 4,.int 8,.int 16,.int 32]) hL1;have nL1:L1≠p:=(hp.ne0 hL1).symm;walk_at "W";refine wTake (hp.same i1) (by decide) (by decide) fun r1 H1 a1 b1 R1 K1=>?_
 obtain⟨vz,hvz,hmz⟩:=atI_in (xs:=[V.int 4,.int 8,.int 16,.int 32]) a1 b1;obtain⟨n0,rfl,hn0⟩:∃ n0:Nat,vz=V.int (n0:Int)/\(n0=4∨n0=8∨n0=16∨n0=32):=by
  simp only[List.mem_cons,List.not_mem_nil,or_false]at hmz;rcases hmz with rfl | rfl | rfl | rfl
  · exact⟨4,rfl,.inl rfl⟩
  · exact⟨8,rfl,.inr (.inl rfl)⟩
  · exact⟨16,rfl,.inr (.inr (.inl rfl))⟩
  exact⟨32,rfl,.inr (.inr (.inr rfl))⟩
 refine wIxL (K1 _ _ nL1 upd_same) hvz ?_;have K01:=(SW.Same.but (p:=p) i1).trans K1;walk_at "W";refine⟨by show(3:Nat)<=sizeLine;decide,fun L2 hL2=>?_⟩
 have i2:=Same.new (o:=.lst [.non,.int (2*(n0:Int)),.int ((n0:Int) / 2)]) hL2;have nL2:L2≠p:=(R1.ne0 hL2).symm;walk_at "W";refine wTake (R1.same i2) (by decide) (by decide) fun r2 H2 a2 b2 R2 K2=>?_
 have K02:=(K01.trans (SW.Same.but (p:=p) i2)).trans K2;obtain⟨vo,hvo,hmo⟩:=atI_in (xs:=[V.non,.int (2*(n0:Int)),.int ((n0:Int) / 2)]) a2 b2;refine wIxL (K2 _ _ nL2 upd_same) hvo ?_;walk_at "W";rename_i N1 hN1;have rest1:∀ o:Option Nat,(∀ x,o=some x->isSize x/\(x=2*n0∨n0=2*x)/\x<=64)->N1 [some (.ref p),some (.ref t),some (.int (n0:Int)),some (oN o),none,none,none,none,none,none,none,none] H2:=by
  intro o ho;refine SW.wGo hN1 ?_;walk_at "W";refine⟨(n0:Int),rfl,by omega,by omega,fun D hD=>?_⟩
  refine comp_rangeU (fun i σ' H'=>∃(ls:List Addr) (v:Option V),σ'=[v]/\ls.length=i/\H' D=some (.lst (ls.map V.ref))/\ls.Nodup/\(∀ y∈ls,H' y=some (.lst [])/\H2 y=none/\y≠D)/\Same H2 H') ⟨[],none,rfl,rfl,upd_same,List.nodup_nil,fun y hy=>(List.not_mem_nil hy).elim,Same.new hD⟩ ?_ ?_
  · rintro i σ' H' hi ⟨ls,v,rfl,hl,g1,nd,g2,s'⟩
    refine⟨by show(0:Nat)<=sizeLine;decide,fun y hy=>?_⟩
    have nyD:D≠y:=ne_of_none g1 hy;have nin:y∉ls:=fun z=>by
     have:=(g2 y z).1;rw[hy]at this;cases this
    refine CN.mk hi (ys:=ls.map V.ref) (by rw[upd_ne nyD];exact g1) (by rw[List.length_map];omega) ⟨ls++[y],_,rfl,by rw[List.length_append,hl];rfl,by rw[upd_same,List.map_append];rfl,nd_snoc nd nin,fun z hz=>?_,fun b o e=>?_⟩
    · rcases List.mem_append.mp hz with hz | hz
      · obtain⟨c1,c2,c3⟩:=g2 z hz
        refine⟨?_,c2,c3⟩;rw[upd_ne c3,upd_ne (fun e:z=y=>nin (e ▸ hz))];exact c1
      rw[List.mem_singleton.mp hz];exact⟨by rw[upd_ne nyD.symm,upd_same],s'.free hy,nyD.symm⟩
    rw[upd_ne (ne_of_none e hD),upd_ne (ne_of_none (s' b o e) hy)];exact s' b o e
  rintro σ' H3 ⟨l0,v,rfl,hl0,g1,nd0,g2,s3⟩;have hl0:l0.length=n0:=by
   have:l0.length=(n0:Int).toNat:=hl0;omega
  walk_at "W";refine⟨by show(1:Nat)<=sizeLine;decide,fun rl hrl=>?_⟩
  have i4:=Same.new (o:=.lst [.ref D]) hrl;have s24:=s3.trans i4;have R4:=R2.same s24;have K04:=K02.trans (SW.Same.but (p:=p) s24);have fr2:∀ y,H2 y=none->y≠p/\H y=none:=fun y hy=>⟨(R2.ne0 hy).symm,by
   cases e:H y with
   | none=>rfl
   | some o=>rw[K02 y o (R2.ne0 hy).symm e]at hy;cases hy⟩
  have nrp:rl≠p:=((R2.same s3).ne0 hrl).symm;have nDp:D≠p:=(fr2 D hD).1;have lr0:LR (upd H3 rl (.lst [.ref D])) D (List.replicate n0 []) l0:=(LR.bare g1 hl0 nd0 fun y hy=>⟨(g2 y hy).1,(g2 y hy).2.2⟩).same i4;have nrl:∀ y∈l0,y≠rl:=fun y hy=>ne_of_none (g2 y hy).1 hrl;have nDl:∀ y∈l0,y≠D:=fun y hy=>(g2 y hy).2.2;have live4:∀ y∈l0,upd H3 rl (.lst [.ref D]) y=some (.lst []):=fun y hy=>i4 _ _ (g2 y hy).1;have fr0:∀ y∈l0,y≠p/\H y=none:=fun y hy=>fr2 y (g2 y hy).2.1;have eD4:=i4 _ _ g1;have erl:=upd_same (H:=H3) (a:=rl) (o:=.lst [.ref D]);obtain⟨H4,hH4⟩:∃ H4,H4=upd H3 rl (.lst [.ref D]):=⟨_,rfl⟩;rw[← hH4]at R4 K04 lr0 live4 eD4 erl ⊢;clear hH4 i4 s24 g1 g2;walk_at "W";rename_i N2 hN2;have rest2:∀(H':Hp) (n:Nat) (q:Nat->Addr) (ls:Nat->List Addr) (sz:Nat->Nat) (mv:Int),(n=1/\o=none/\mv=0/\sz 1=0∨n=2/\o=some (sz 1)/\0<=mv/\mv < n0)->sz 0=n0->TS H p rl n q ls (fun s=>List.replicate (sz s) []) H'->N2 [some (.ref p),some (.ref t),some (.int (n0:Int)),some (oN o),some (.int mv),some (.ref rl),none,none,none,none,none,none] H':=by
   intro H' n q ls sz mv hcase hsz0 T;have hn2:n=1∨n=2:=by omega
   have hmv:0<=mv/\mv < n0:=by omega
   have hsz64:∀ s,s < n->sz s<=64:=fun s hs=>by
    rcases(show s=0∨s=1 by omega)with rfl | rfl
    · omega
    rcases hcase with y | y
    · omega
    exact(ho (sz 1) y.2.1).2.2
   refine SW.wGo hN2 ?_;walk_at "W";intro sd hsd;have nsp:sd≠p:=(T.r.ne0 hsd).symm;have sd0:H sd=none:=by
    cases e:H sd with
    | none=>rfl
    | some o=>rw[T.k sd o nsp e]at hsd;cases hsd
   have Ta:=T.same (Same.new (o:=.dK []) hsd);have esd:=upd_same (H:=H') (a:=sd) (o:=.dK []);obtain⟨Ha,hHa⟩:∃ Ha,Ha=upd H' sd (.dK []):=⟨_,rfl⟩;rw[← hHa]at Ta esd ⊢;clear hHa;walk_at "W";refine⟨by show(2:Nat)<=sizeLine;decide,fun L3 hL3=>?_⟩
   have i3:=Same.new (o:=.lst [.int 6,.int 40]) hL3;have nL3:L3≠p:=(Ta.r.ne0 hL3).symm;have Tb:=Ta.same i3;walk_at "W";refine wTake Tb.r (by decide) (by decide) fun r3 Hb a3 b3 Rb Kb=>?_
   have Tc:=Tb.keepP Rb Kb;obtain⟨vc,hvc,hmc⟩:=atI_in (xs:=[V.int 6,.int 40]) a3 b3;obtain⟨cc,rfl,hcc⟩:∃ cc:Int,vc=V.int cc/\(cc=6∨cc=40):=by
    simp only[List.mem_cons,List.not_mem_nil,or_false]at hmc;rcases hmc with rfl | rfl
    · exact⟨6,rfl,.inl rfl⟩
    exact⟨40,rfl,.inr rfl⟩
   refine wIxL (Kb _ _ nL3 upd_same) hvc ?_;walk_at "W";refine wTake Tc.r (by omega) (by omega) fun c Hc c0 c1 Rc Kc=>?_
   have Td:=Tc.keepP Rc Kc;have esd':=Kc _ _ nsp (Kb _ _ nsp (i3 _ _ esd));walk_at "W";refine⟨c,rfl,by omega,by omega,?_⟩
   refine SW.forRangeC (fun i σ H3=>∃(x:TV) (v7 v8 v9 v10:Option V),σ=[some (.ref p),some (.ref t),some (.int (n0:Int)),some (oN o),some (.int mv),some (.ref rl),some (.ref sd),v7,v8,v9,v10,none]/\TI_ H p rl sd n q ls sz fa mo mv i x H3) ⟨⟨fun s=>List.replicate (sz s) [],[]⟩,none,none,none,none,rfl,⟨Td,esd',Nat.le_refl _,fun s=>List.length_replicate,inpl_bare _,inpl_bare _,by rw[kall_bare,kall_bare];exact List.nodup_nil,fun k hk=>(by rw[kall_bare,kall_bare]at hk;cases hk),by rw[tot_bare,tot_bare];exact Nat.le_refl _,fun p hp=>(by rw[flat_bare,flat_bare]at hp;cases hp)⟩⟩ ?_ ?_
   · rintro i σ H3 hi ⟨x,v7,v8,v9,v10,rfl,I⟩
     have hi40:i < 40:=by
      have:i < c.toNat:=hi;omega
     walk_at "W";refine wKey I.t.r fun ky H4 ky0 ky1 R4 K4=>?_;have I4:=I.keepP R4 K4;have ht4:=I4.t.k _ _ (hp.ne ht) ht;walk_at "W";refine SW.iLen (.inl (SqL.of I4.t.top)) ?_;walk_at "W";rw[List.length_map,List.length_range];refine wTake I4.t.r (by omega) (by omega) fun at_ H5 a0 a1 R5 K5=>?_
     have I5:=I4.keepP R5 K5;have hmk:0<=(ky*fa+mo) % 65536:=Int.emod_nonneg _ (by decide)
     walk_at "W";rename_i N3 hN3;have rest3:∀ s:Nat,s < n->(s=0 -> ¬ (ky*fa+mo) % 65536 % (n0:Int) < mv)->N3 [some (.ref p),some (.ref t),some (.int (n0:Int)),some (oN o),some (.int mv),some (.ref rl),some (.ref sd),some (.int (0+(i:Int))),some (.int ky),some (.int ((ky*fa+mo) % 65536)),some (.int (s:Int)),none] H5:=by
      intro s hs hs0;have hszs:0 < sz s:=by
       rcases hn2 with e | e
       · have:s=0:=by omega
         subst this;omega
       by_cases z:s=0
       · subst z;omega
       have:s=1:=by omega
       subst this;rcases hcase with y | y
       · omega
       have:=(ho (sz 1) y.2.1).1;unfold isSize at this;simp only[List.mem_cons,List.not_mem_nil,or_false]at this;omega
      refine SW.wGo hN3 ?_;walk_at "W";refine⟨sd,_,rfl,DGet.k (k:=Sum.inl ky) I5.sd,?_⟩;walk_at "W";rw[valV_kbs];by_cases hk:ky∈x.ks
      · rw[decide_eq_true hk]
        refine iteF ?_;walk_at "W";exact⟨x,_,_,_,_,rfl,I5.next⟩
      rw[decide_eq_false hk];refine iteT ?_;walk_at "W";refine⟨sd,_,rfl,DPut.k (k:=Sum.inl ky) I5.sd (by rw[kbs_len];have:=I5.kl;omega),?_⟩
      rw[putK_kbs hk];have T6:=I5.t.keepD (kv':=kbs (x.ks++[ky])) I5.sd sd0;have esd6:=upd_same (H:=H5) (a:=sd) (o:=.dK (kbs (x.ks++[ky])));obtain⟨H6,hH6⟩:∃ H6,H6=upd H5 sd (.dK (kbs (x.ks++[ky]))):=⟨_,rfl⟩;rw[← hH6]at T6 esd6 ⊢;clear hH6;have ixs:atI ((List.range n).map fun s=>V.ref (q s)) (s:Int)=some (.ref (q s)):=atI_nat (by rw[List.getElem?_map,List.getElem?_range hs];rfl)
      have lrs:=T6.lr s hs;have hll:(ls s).length=sz s:=by rw[lrs.len];exact I5.len s
      obtain⟨j,hj⟩:∃ j,j=plc fa mo (sz s) ky:=⟨_,rfl⟩;have hjI:(ky*fa+mo) % 65536 % (sz s:Int)=(j:Int):=by rw[hj];exact(plc_int hszs).symm
      have hjl:j < sz s:=by rw[hj];exact plc_lt hszs
      obtain⟨l,ys,e1,e2,e3⟩:=lrs.place (i:=j) (by rw[I5.len s];exact hjl)
      have hrj:(x.R s)[j]?=some ((x.R s).getD j []):=getD_get (by rw[I5.len s];exact hjl)
      obtain⟨r,hr_⟩:∃ r,r=(x.R s).getD j []:=⟨_,rfl⟩;rw[← hr_]at e3 hrj;have hrl:r.length<=i:=by
       have h3:=tot_take (x.R s) (j+1);rw[take_snocF hrj,tot_app]at h3;have h4:tot [r]=r.length:=by unfold tot;simp
       have h5:=I5.tt;rcases(show s=0∨s=1 by omega)with rfl | rfl <;> omega
      walk_at "W";refine wBM ?_;walk_at "W";refine wIxL T6.top ixs ?_;walk_at "W";refine wIxL T6.top ixs ?_;refine SW.iLen (.inl (SqL.of lrs.top)) ?_;walk_at "W";rw[List.length_map,hll];refine wMod (by omega) ?_
      rw[hjI];refine wIxL lrs.top (v:=.ref l) (atI_nat (by rw[List.getElem?_map,e1];rfl)) ?_
      refine⟨.inl ⟨rfl,_,SqL.of e2⟩,?_⟩;walk_at "W";refine wWorth T6.r fun wo H7 wo0 wo1 R7 K7=>?_;have T7:=T6.keepP R7 K7;walk_at "W";refine⟨by show(2:Nat)<=sizeLine;decide,fun tp htp=>?_⟩
      have i8:=Same.new (o:=.tup [.int ky,.int wo]) htp;have T8:=T7.same i8;have hm:=List.mem_of_getElem? e1;have e28:=i8 _ _ (K7 _ _ (T6.x3 s hs l hm).2.1 e2);have e38:=(e3.keep (rowTK T6.r K7)).keep (SW.Same.tk i8);have esd8:=i8 _ _ (K7 _ _ nsp esd6);have nsl:sd≠l:=ne_of esd8 e28 (by intro z;cases z)
      have hyl:=e3.len;have T9:=T8.set (xs:=ys++[.ref tp]) (r:=r++[(ky,wo)]) hs e1 (paired_append (.cons ⟨tp,rfl,upd_same⟩ .nil) e38);walk_at "W";refine⟨l,ys,.ref tp,rfl,rfl,e28,by omega,?_⟩
      walk_at "W";have nw:s=0∨s=1:=by omega
      have ts:=tot_set (r:=r++[(ky,wo)]) hrj;rw[List.length_append]at ts;have ts:tot ((x.R s).set j (r++[(ky,wo)]))=tot (x.R s)+1:=by
       have:(r.length+[(ky,wo)].length)=r.length+1:=rfl;omega
      have hkl:=I5.kl;have htt:=I5.tt;refine⟨⟨fun s'=>if s'=s then(x.R s).set j (r++[(ky,wo)])else x.R s',x.ks++[ky]⟩,_,_,_,_,rfl,⟨T9,by rw[upd_ne nsl];exact esd8,by rw[List.length_append];exact Nat.succ_le_succ hkl,fun s'=>?_,?_,?_,?_,?_,?_,?_⟩⟩
      · show(if s'=s then(x.R s).set j (r++[(ky,wo)])else x.R s').length=sz s'
        by_cases e:s'=s
        · rw[if_pos e,List.length_set,e];exact I5.len s
        rw[if_neg e];exact I5.len s'
      · rcases nw with rfl | rfl
        · show InPl fa mo mv (if(0:Nat)=0 then(x.R 0).set j (r++[(ky,wo)])else x.R 0)
          rw[if_pos rfl];refine I5.p0.set hrj (by rw[I5.len 0];exact hjI) ?_
          rw[hsz0]at hjI;rw[← hjI];exact hs0 rfl
        exact I5.p0
      · rcases nw with rfl | rfl
        · exact I5.p1
        show InPl fa mo 0 (if(1:Nat)=1 then(x.R 1).set j (r++[(ky,wo)])else x.R 1);rw[if_pos rfl];exact I5.p1.set hrj (by rw[I5.len 1];exact hjI) (by omega)
      · rcases nw with rfl | rfl
        · exact(nodup_new I5.nd I5.inn hk (by show(kall ((x.R 0).set j (r++[(ky,wo)]))++kall (x.R 1)).Perm _;exact((kall_set hrj).append_right _))).1
        exact(nodup_new I5.nd I5.inn hk (by show(kall (x.R 0)++kall ((x.R 1).set j (r++[(ky,wo)]))).Perm _;exact((kall_set hrj).append_left _).trans (perm_mid _ _ _))).1
      · rcases nw with rfl | rfl
        · exact(nodup_new I5.nd I5.inn hk (by show(kall ((x.R 0).set j (r++[(ky,wo)]))++kall (x.R 1)).Perm _;exact((kall_set hrj).append_right _))).2
        exact(nodup_new I5.nd I5.inn hk (by show(kall (x.R 0)++kall ((x.R 1).set j (r++[(ky,wo)]))).Perm _;exact((kall_set hrj).append_left _).trans (perm_mid _ _ _))).2
      · rcases nw with rfl | rfl
        · show tot ((x.R 0).set j (r++[(ky,wo)]))+tot (x.R 1)<=_
          omega
        show tot (x.R 0)+tot ((x.R 1).set j (r++[(ky,wo)]))<=_;omega
      have hb:InB (ky,wo):=⟨⟨ky0,ky1⟩,wo0,wo1⟩;rcases nw with rfl | rfl
      · intro p hp
        have hp:p∈((x.R 0).set j (r++[(ky,wo)])).flatten++(x.R 1).flatten:=hp;rcases List.mem_append.mp hp with z | z
        · rcases flat_set hrj z with y | y
          · exact I5.bb p (List.mem_append_left _ y)
          rw[y];exact hb
        exact I5.bb p (List.mem_append_right _ z)
      intro p hp;have hp:p∈(x.R 0).flatten++((x.R 1).set j (r++[(ky,wo)])).flatten:=hp;rcases List.mem_append.mp hp with z | z
      · exact I5.bb p (List.mem_append_left _ z)
      rcases flat_set hrj z with y | y
      · exact I5.bb p (List.mem_append_right _ y)
      rw[y];exact hb
     clear hN3;by_cases h0:at_=0
     · refine iteY (by rw[h0]) ?_
       walk_at "W";by_cases h1:(ky*fa+mo) % 65536 % (n0:Int) < mv
       · refine iteY h1 ?_
         walk_at "W";have h2:n=2:=by
          rcases hcase with y | y
          · have:0<=(ky*fa+mo) % 65536 % (n0:Int):=Int.emod_nonneg _ (by omega)
            omega
          exact y.1
         exact rest3 1 (by omega) (fun z=>by omega)
       refine iteNo h1 ?_;walk_at "W";have:=rest3 0 (by omega) (fun _=>h1)
       rw[h0];exact this
     refine iteNo (fun z=>h0 (by injection z)) ?_
     refine iteF ?_;walk_at "W";obtain⟨sa,rfl⟩:=Int.eq_ofNat_of_zero_le a0;exact rest3 sa (by omega) (fun z=>absurd (by rw[z];rfl) h0)
   rintro σ H8 ⟨x,v7,v8,v9,v10,rfl,I⟩;have htt:=I.tt;have hc40:c.toNat<=39:=by omega
   walk_at "W";refine⟨rl,rfl,⟨_,SqL.of I.t.top⟩,fun D3 hD3=>?_⟩;refine comp_listU (xs:=(List.range n).map fun s=>V.ref (q s)) (fun i σ' H9=>∃(v:Option V) (zs:List V),σ'=[v]/\Same H8 H9/\H9 D3=some (.lst zs)/\Paired (RowsV H9) zs ((List.range i).map x.R)/\zs.length=i) ⟨none,[],rfl,Same.new hD3,upd_same,.nil,rfl⟩ (fun i σ' H9 _ ⟨_,_,_,s',_⟩=>SqL.of (s' _ _ I.t.top)) ?_ ?_
   · rintro s y σ' H9 hy hs ⟨v,zs,rfl,s9,hD9,hz,hzl⟩
     rw[List.length_map,List.length_range]at hs;rw[List.getElem?_map,List.getElem?_range hs]at hy;cases hy;have lrs:=I.t.lr s hs;walk_at "W";refine⟨q s,rfl,⟨_,SqL.of (s9 _ _ lrs.top)⟩,fun D4 hD4=>?_⟩;refine comp_listU (xs:=(ls s).map V.ref) (fun i σ' Hx=>∃(v:Option V) (us:List V),σ'=[v]/\Same H9 Hx/\Hx D4=some (.lst us)/\Paired (RowV Hx) us ((x.R s).take i)/\us.length=i) ⟨none,[],rfl,Same.new hD4,upd_same,by rw[List.take_zero];exact .nil,rfl⟩ (fun i σ' Hx _ ⟨_,_,_,s',_⟩=>SqL.of (s' _ _ (s9 _ _ lrs.top))) ?_ ?_
     · rintro i y σ' Hx hy hi ⟨v,us,rfl,sx,hDx,hu,hul⟩
       rw[List.getElem?_map]at hy;obtain⟨l,hl,rfl⟩:=Option.map_eq_some_iff.mp hy;have hil:i < (x.R s).length:=by rw[← lrs.len];exact(List.getElem?_eq_some_iff.mp hl).1
       obtain⟨ys,c1,c3⟩:=lrs.at_ i l _ hl (List.getElem?_eq_getElem hil);have s8x:=s9.trans sx;walk_at "W";refine⟨l,ys,rfl,.inl ⟨SqL.of (s8x _ _ c1),fun tt htt=>?_⟩⟩;have n1:tt≠D4:=(ne_of_none hDx htt).symm;have tk:TK Hx (upd (upd Hx tt (.tup ys)) D4 (.lst (us++[.ref tt]))):=fun a ws e=>by
        rw[upd_ne (ne_of e hDx (by intro z;cases z))]
        exact Same.new htt _ _ e
       refine CN.mk hi (by rw[upd_ne n1.symm];exact hDx) (by rw[List.length_map,lrs.len,I.len s]at hi;rw[hul];have:sz s<=64:=hsz64 s hs;omega) ⟨_,us++[.ref tt],rfl,fun b o e=>by rw[upd_ne (ne_of_none e hD4)];exact Same.new htt _ _ (sx _ _ e),upd_same,?_,by rw[List.length_append,hul];rfl⟩
       rw[take_snocF (List.getElem?_eq_getElem hil)];exact paired_append (.cons ⟨tt,ys,rfl,by rw[upd_ne n1];exact upd_same,(c3.keep (SW.Same.tk s8x)).keep tk⟩ .nil) (rows_keep hu tk)
     rintro σ' Hx ⟨v,us,rfl,sx,hDx,hu,hul⟩;rw[List.length_map,lrs.len,List.take_length]at hu;walk_at "W";refine⟨D4,us,rfl,.inl ⟨SqL.of hDx,fun tt htt=>?_⟩⟩;have s8x:=s9.trans sx;have hDx3:=sx _ _ hD9;have n1:tt≠D3:=(ne_of_none hDx3 htt).symm;have tk:TK Hx (upd (upd Hx tt (.tup us)) D3 (.lst (zs++[.ref tt]))):=fun a ws e=>by
      rw[upd_ne (ne_of e hDx3 (by intro z;cases z))]
      exact Same.new htt _ _ e
     refine CN.mk (by rw[List.length_map,List.length_range];exact hs) (by rw[upd_ne n1.symm];exact hDx3) (by rw[hzl];omega) ⟨_,zs++[.ref tt],rfl,fun b o e=>by rw[upd_ne (ne_of_none e hD3)];exact Same.new htt _ _ (s8x _ _ e),upd_same,?_,by rw[List.length_append,hzl];rfl⟩
     rw[List.range_succ,List.map_append];exact paired_append (.cons ⟨tt,us,rfl,by rw[upd_ne n1];exact upd_same,rows_keep hu tk⟩ .nil) (Paired.mapP hz fun _ _ y=>(y.keep (SW.Same.tk sx)).keep tk)
   rintro σ' H9 ⟨v,zs,rfl,s9,hD9,hz,hzl⟩;rw[List.length_map,List.length_range]at hz hzl;have T9:=I.t.same s9;have z0:∀(s:Nat) (y:V),zs[s]?=some y->RowsV H9 y (x.R s):=fun s y e=>by
    obtain⟨d,e1,e2⟩:=paired_get hz e;have hs:s < n:=by rw[← hzl];exact(List.getElem?_eq_some_iff.mp e).1
    rw[List.getElem?_map,List.getElem?_range hs]at e1;cases e1;exact e2
   have l0:=I.len 0;have l1:=I.len 1;walk_at "W";refine SW.iLen (.inl (SqL.of hD9)) ?_;walk_at "W";rw[hzl];rcases hcase with ⟨rfl,rfl,rfl,h1⟩ | ⟨rfl,ho2,h2,h3⟩
   · refine iteY rfl ?_
     have e0:zs[0]?=some zs[0]:=List.getElem?_eq_getElem (by omega)
     walk_at "W";refine wIxL hD9 (atI_nat (j:=0) e0) ?_;walk_at "W";refine⟨by show(3:Nat)<=sizeLine;decide,fun q5 hq5=>?_⟩
     have i5:=Same.new (o:=.tup [.non,.int 0,zs[0]]) hq5;have hR1:x.R 1=[]:=List.eq_nil_of_length_eq_zero (by rw[l1];exact h1)
     have nd:=I.nd;rw[hR1]at nd;have nd:(kall (x.R 0)++[]).Nodup:=nd;rw[List.append_nil]at nd;refine k _ _ ⟨none,0,x.R 0⟩ ⟨q5,.non,zs[0],rfl,upd_same,rfl,(z0 0 _ e0).keep (SW.Same.tk i5)⟩ ⟨⟨Nat.zero_le _,Nat.zero_le _⟩,⟨by show(x.R 0).length<=64;omega,by show tot (x.R 0)<=64;omega⟩⟩ ?_ (T9.r.same i5) (T9.k.trans (SW.Same.but i5))
     refine⟨?_,rfl,(fun i r e=>by simp at e),I.p0,nd,fun p hp=>I.bb p (List.mem_append_left _ hp),by show 0+tot (x.R 0)<=39;omega⟩
     show(decide (isSize (x.R 0).length) && true)=true;rw[l0,hsz0,decide_eq_true (by rcases hn0 with rfl | rfl | rfl | rfl <;> decide)];rfl
   refine iteNo (fun z=>by injection z with z;omega) ?_
   have e0:zs[0]?=some zs[0]:=List.getElem?_eq_getElem (by omega)
   have e1:zs[1]?=some zs[1]:=List.getElem?_eq_getElem (by omega)
   obtain⟨y1,y2,y3⟩:=ho (sz 1) ho2;walk_at "W";refine wIxL hD9 (atI_nat (j:=0) e0) ?_;walk_at "W";refine wIxL hD9 (atI_nat (j:=1) e1) ?_;walk_at "W";refine⟨by show(3:Nat)<=sizeLine;decide,fun q5 hq5=>?_⟩
   have i5:=Same.new (o:=.tup [zs[0],.int mv,zs[1]]) hq5;refine k _ _ ⟨some (x.R 0),mv,x.R 1⟩ ⟨q5,zs[0],zs[1],rfl,upd_same,(z0 0 _ e0).keep (SW.Same.tk i5),(z0 1 _ e1).keep (SW.Same.tk i5)⟩ ⟨⟨by show(x.R 0).length<=64;omega,by show tot (x.R 0)<=64;omega⟩,⟨by show(x.R 1).length<=64;omega,by show tot (x.R 1)<=64;omega⟩⟩ ?_ (T9.r.same i5) (T9.k.trans (SW.Same.but i5))
   refine⟨?_,?_,I.p0,I.p1,I.nd,I.bb,by show tot (x.R 0)+tot (x.R 1)<=39;omega⟩
   · show(decide (isSize (x.R 1).length) && (decide (isSize (x.R 0).length) && (decide ((x.R 0).length=2*(x.R 1).length) || decide ((x.R 1).length=2*(x.R 0).length))))=true
     rw[l0,l1,hsz0,decide_eq_true y1,decide_eq_true (show isSize n0 by rcases hn0 with rfl | rfl | rfl | rfl <;> decide)]
     rcases y2 with y2 | y2
     · rw[decide_eq_true y2,Bool.or_true];rfl
     rw[decide_eq_true y2,Bool.true_or];rfl
   show(decide (0<=mv) && decide (mv < ((x.R 0).length:Int)))=true;rw[l0,hsz0,decide_eq_true h2,decide_eq_true h3];rfl
  clear hN2;have ts1:TS H p rl 1 (fun _=>D) (fun _=>l0) (fun s=>List.replicate (if s=0 then n0 else 0) []) H4:=⟨R4,K04,erl,fun s hs=>by rw[Nat.lt_one_iff.mp hs];exact lr0,fun s s' hs hs' hne=>absurd (by omega:s=s') hne,fun s s' _ _ l hl=>nDl l hl,fun s _ l hl=>⟨nrl l hl,fr0 l hl⟩,nrp,fun s _=>nDp⟩
  refine⟨rfl,?_⟩;walk_at "W";cases o with
  | none=>
    refine iteNS rfl ?_;walk_at "W";exact rest2 H4 1 _ _ _ 0 (.inl ⟨rfl,rfl,rfl,rfl⟩) rfl ts1
  | some x=>
    obtain⟨hx1,hx2,hx3⟩:=ho x rfl;refine iteNN (fun z=>nomatch z) ?_;walk_at "W";refine wTake ts1.r (by omega) (by omega) fun mv H5 m0 m1 R5 K5=>?_
    have ts5:=ts1.keepP R5 K5;walk_at "W";refine wBM ?_;walk_at "W";refine⟨.inl ⟨rfl,_,SqL.of ts5.top⟩,?_⟩;walk_at "W";refine⟨(x:Int),rfl,by omega,by omega,fun D2 hD2=>?_⟩
    refine comp_rangeU (fun i σ' H'=>∃(ls:List Addr) (v:Option V),σ'=[v]/\ls.length=i/\H' D2=some (.lst (ls.map V.ref))/\ls.Nodup/\(∀ y∈ls,H' y=some (.lst [])/\H5 y=none/\y≠D2)/\Same H5 H') ⟨[],none,rfl,rfl,upd_same,List.nodup_nil,fun y hy=>(List.not_mem_nil hy).elim,Same.new hD2⟩ ?_ ?_
    · rintro i σ' H' hi ⟨ls,v,rfl,hl,g1,nd,g2,s'⟩
      refine⟨by show(0:Nat)<=sizeLine;decide,fun y hy=>?_⟩
      have nyD:D2≠y:=ne_of_none g1 hy;have nin:y∉ls:=fun z=>by
       have:=(g2 y z).1;rw[hy]at this;cases this
      refine CN.mk hi (ys:=ls.map V.ref) (by rw[upd_ne nyD];exact g1) (by rw[List.length_map];omega) ⟨ls++[y],_,rfl,by rw[List.length_append,hl];rfl,by rw[upd_same,List.map_append];rfl,nd_snoc nd nin,fun z hz=>?_,fun b o e=>?_⟩
      · rcases List.mem_append.mp hz with hz | hz
        · obtain⟨c1,c2,c3⟩:=g2 z hz
          refine⟨?_,c2,c3⟩;rw[upd_ne c3,upd_ne (fun e:z=y=>nin (e ▸ hz))];exact c1
        rw[List.mem_singleton.mp hz];exact⟨by rw[upd_ne nyD.symm,upd_same],s'.free hy,nyD.symm⟩
      rw[upd_ne (ne_of_none e hD2),upd_ne (ne_of_none (s' b o e) hy)];exact s' b o e
    rintro σ' H6 ⟨l1,v,rfl,hl1,g1,nd1,g2,s6⟩;have hl1:l1.length=x:=by
     have:l1.length=(x:Int).toNat:=hl1;omega
    walk_at "W";have ts6:=ts5.same s6;refine⟨rl,_,_,rfl,rfl,ts6.top,by show(1:Nat) < sizeLine;omega,?_⟩
    have kk:∀ b o,b≠rl->H6 b=some o->upd H6 rl (.lst [.ref D,.ref D2]) b=some o:=fun b o n e=>by rw[upd_ne n];exact e
    have old:∀ y∈l0,H5 y=some (.lst []):=fun y hy=>K5 _ _ (fr0 y hy).1 (live4 y hy);have new1:∀ y∈l1,y≠rl/\y≠p/\H y=none:=fun y hy=>by
     have h5:=(g2 y hy).2.1;refine⟨fun z=>(by rw[z,ts5.top]at h5;cases h5),(R5.ne0 h5).symm,?_⟩
     cases e:H y with
     | none=>rfl
     | some o=>rw[ts5.k y o (R5.ne0 h5).symm e]at h5;cases h5
    have nD2:D2≠rl:=fun z=>by rw[z,ts5.top]at hD2;cases hD2
    have lr6:=ts6.lr 0 Nat.zero_lt_one;have lr1:LR H6 D2 (List.replicate x []) l1:=LR.bare g1 hl1 nd1 fun y hy=>⟨(g2 y hy).1,(g2 y hy).2.2⟩;have trl:∀ b xs,H6 b=some (.tup xs) -> ¬ b=rl:=fun b xs e=>ne_of e ts6.top (by intro z;cases z)
    have nDrl:D≠rl:=fun z=>by
     have h1:=lr6.top;have h2:=ts6.top;have h1:H6 D=some (.lst (l0.map V.ref)):=h1;rw[z,h2]at h1;have h3:[V.ref D]=l0.map V.ref:=by
      have:=Option.some.inj h1;injection this
     have:V.ref D∈l0.map V.ref:=by rw[← h3];exact List.mem_singleton.mpr rfl
     obtain⟨y,hy,e⟩:=List.mem_map.mp this;injection e with e;exact nDl y hy e
    walk_at "W";refine rest2 _ 2 (fun s=>if s=0 then D else D2) (fun s=>if s=0 then l0 else l1) (fun s=>if s=0 then n0 else x) mv (.inr ⟨rfl,rfl,m0,m1⟩) rfl ⟨?_,fun b o n e=>?_,upd_same,fun s hs=>?_,fun s s' hs hs' hne l hl hl'=>?_,fun s s' hs hs' l hl=>?_,fun s hs l hl=>?_,nrp,fun s hs=>?_⟩
    · obtain⟨a,b,c,h,gg⟩:=ts6.r
      exact⟨a,b,c,kk _ _ nrp.symm h,gg⟩
    · exact kk _ _ (fun z=>by
       have:=fr2 rl (s3.free hrl);rw[z,this.2]at e;cases e) (ts6.k _ _ n e)
    · by_cases e:s=0
      · subst e
        exact lr6.keep (G:=fun b=>b=rl) (fun b o n e=>kk b o n e) nDrl (fun b hb z=>nrl b hb z) trl
      have:s=1:=by omega
      subst this;exact lr1.keep (G:=fun b=>b=rl) (fun b o n e=>kk b o n e) nD2 (fun b hb=>(new1 b hb).1) trl
    · have both:∀ y,y∈l0->y∈l1->False:=fun y y0 y1=>by
       have:=old y y0;rw[(g2 y y1).2.1]at this;cases this
      by_cases e:s=0
      · subst e
        have e':s'=1:=by omega
        subst e';exact both l hl hl'
      have e1:s=1:=by omega
      subst e1;have e':s'=0:=by omega
      subst e';exact both l hl' hl
    · have c01:∀ y∈l0,y≠D2:=fun y y0 z=>by
       have:=old y y0;rw[z,hD2]at this;cases this
      have c10:∀ y∈l1,y≠D:=fun y y1 z=>by
       have h5:=(g2 y y1).2.1;have h6:H5 D=some (.lst (l0.map V.ref)):=(ts5.lr 0 Nat.zero_lt_one).top;rw[z,h6]at h5;cases h5
      by_cases e:s=0
      · subst e
        by_cases e':s'=0
        · subst e';exact nDl l hl
        show l≠if s'=0 then D else D2;rw[if_neg e'];exact c01 l hl
      have e1:s=1:=by omega
      subst e1;by_cases e':s'=0
      · subst e';exact c10 l hl
      show l≠if s'=0 then D else D2;rw[if_neg e'];exact(g2 l hl).2.2
    · by_cases e:s=0
      · subst e;exact⟨nrl l hl,fr0 l hl⟩
      have e1:s=1:=by omega
      subst e1;exact new1 l hl
    show(if s=0 then D else D2)≠p;by_cases e:s=0
    · rw[if_pos e];exact nDp
    rw[if_neg e];exact(R5.ne0 hD2).symm
 clear hN1;have hb2:∀ x:Nat,(V.int (x:Int)=V.int 2)->x=2:=fun x z=>by injection z with z;omega
 simp only[List.mem_cons,List.not_mem_nil,or_false]at hmo;rcases hmo with rfl | rfl | rfl
 · refine⟨rfl,?_⟩
   walk_at "W";refine iteNo (fun z=>nomatch z) ?_;walk_at "W";exact rest1 none (fun x e=>nomatch e)
 · refine⟨rfl,?_⟩
   walk_at "W";refine iteNo (fun z=>by injection z with z;omega) ?_
   walk_at "W";have:=rest1 (some (2*n0)) (fun x e=>by cases e;refine⟨?_,.inl rfl,by omega⟩;rcases hn0 with rfl | rfl | rfl | rfl <;> decide)
   rw[show oN (some (2*n0))=V.int (2*(n0:Int))from rfl]at this;exact this
 refine⟨rfl,?_⟩;walk_at "W";by_cases h4:n0=4
 · refine iteY (by rw[h4];rfl) ?_
   walk_at "W";exact rest1 (some 8) (fun x e=>by cases e;exact⟨by decide,.inl (by omega),by decide⟩)
 refine iteNo (fun z=>by injection z with z;omega) ?_
 walk_at "W";have:=rest1 (some (n0 / 2)) (fun x e=>by cases e;refine⟨?_,.inr (by omega),by omega⟩;rcases hn0 with rfl | rfl | rfl | rfl <;> first | exact absurd rfl h4 | decide)
 rw[show oN (some (n0 / 2))=V.int ((n0:Int) / 2)from rfl]at this;exact this
def spPairs42:Sp:=fun vs H Q _=>∃(v:V) (M:MT),vs=[v]/\StV H v (staOf M)/\SW.cnt M<=100000 /\ ∀ l zs H',Same H H'->H l=none->H' l=some (.lst zs)->(∃ qs,Prs H' zs qs/\qs.Perm (allP M)/\qs.Pairwise leP)->Q (.ref l) H'
theorem wPairs42{H:Hp}{Q:VK}{E:XK}{v:V}{M:MT}(h1:StV H v (staOf M))(h2:SW.cnt M<=100000)(k:∀ l zs H',Same H H'->H l=none->H' l=some (.lst zs)->(∃ qs,Prs H' zs qs/\qs.Perm (allP M)/\qs.Pairwise leP)->Q (.ref l) H'):spPairs42 ([v]++[]) H Q E:=⟨v,M,rfl,h1,h2,k⟩
theorem flat_take{R:MRows}{j:Nat}{r:MRow}(h:R[j]?=some r):(R.take (j+1)).flatten=(R.take j).flatten++r:=by
 rw[take_snocF h,List.flatten_append,List.flatten_singleton]
theorem q32_(d:Dfn K mg "_law_pairs" z46_ ["state"])(g:Gs K mg C CT):Fn P w K mg base "_law_pairs" 1 ["state"] spPairs42:=by
 refine d.fn z105_ (fun vs H Q E h=>?_) (fun f cdv A outer s H vs Q E hr h=>?_)
 · obtain⟨v,S,rfl,_⟩:=h
   rfl
 obtain⟨v,M,rfl,hS,hB,k⟩:=h;obtain⟨u,ve,vn,rfl,hu,he,hn⟩:=id hS;have he:ElV H ve M.el:=he;have hn:RowsV H vn M.nw:=hn;have lim:sizeLine=16777216:=sizeLine_eq;refine⟨_,(B.scons (B.set 1 z105_.nd (B.lst B.nil))
  (B.scons (B.fors (B.ilist (B.lst (B.cons (SW.B.orA (B.ix ix_tup (B.v 0) B.int) (B.one (B.tup B.nil))) (B.cons (B.ix ix_tup (B.v 0) B.int) B.nil)))) (B.gname (i:=2) z105_.nd) (B.sone (B.fors (B.itup (B.v 2)) (B.gname (i:=3) z105_.nd) (B.sone (B.expr (B.m PySem.F.plainAttrs_list PySem.F.slot_list_extend PySem.F.type_list_extend SW.mt_extendT (B.v 1) (B.cons (B.v 3) B.nil)))))))
  (B.sone (B.ret (B.cB SW.call_sortedLP g.b_sorted SW.b_sorted (B.cons (B.v 1) B.nil)))))),?_⟩
 walk_at "W";refine⟨by show(0:Nat)<=sizeLine;decide,fun l hl=>?_⟩
 have s1:Same H (upd H l (.lst [])):=Same.new hl;have hu1:=s1 _ _ hu;walk_at "W";refine or_el (he.keep (SW.Same.tk s1)) fun va H2 s2 ha=>?_;have hu2:=s2 _ _ hu1;walk_at "W";refine⟨by show(2:Nat)<=sizeLine;decide,fun t3 ht3=>?_⟩
 have a3:=Same.new (o:=.lst [va,vn]) ht3;have s15:=s2.trans a3;have hva:=ha.keep (SW.Same.tk a3);have hvn:=hn.keep (SW.Same.tk (s1.trans s15));have el:=s15 _ _ (upd_same (H:=H) (a:=l) (o:=.lst []));have s05:=s1.trans s15;have e3:=upd_same (H:=H2) (a:=t3) (o:=.lst [va,vn]);have n3:t3≠l:=(ne_of_none (s2 _ _ (upd_same (H:=H) (a:=l) (o:=.lst []))) ht3).symm;obtain⟨H5,hH5⟩:∃ H5,H5=upd H2 t3 (.lst [va,vn]):=⟨_,rfl⟩;rw[← hH5]at hva hvn el s05 e3 ⊢;clear hH5 s15 a3;have hB2:tot (M.el.getD [])+tot M.nw<=100000:=by
  have h1:=allP_len M;unfold allP at h1;rw[List.length_append,flatten_len,flatten_len]at h1;omega
 obtain⟨acc,hacc⟩:∃ acc:Nat->MRow,acc=fun i=>if i=0 then[]else if i=1 then(M.el.getD []).flatten else allP M:=⟨_,rfl⟩;have itm:∀ i x,[va,vn][i]?=some x -> ∃(R:MRows),RowsV H5 x R/\acc (i+1)=acc i++R.flatten/\(acc i).length+tot R<=100000:=by
  intro i x e
  match i,e with
  | 0,e=>
    cases e;refine⟨M.el.getD [],hva,by rw[hacc];rfl,?_⟩
    rw[hacc];show 0+_<=_;omega
  | 1,e=>
    cases e;refine⟨M.nw,hvn,by rw[hacc];rfl,?_⟩
    rw[hacc];show((M.el.getD []).flatten).length+_<=_;rw[flatten_len];exact hB2
  | n+2,e=>simp at e
 refine⟨t3,rfl,⟨_,SqL.of e3⟩,?_⟩;refine SW.forListC (xs:=[va,vn]) (fun i σ H'=>∃(zs:List V) (v2 v3:Option V),σ=[some (.ref u),some (.ref l),v2,v3]/\KeepBut l H5 H'/\H' l=some (.lst zs)/\Prs H' zs (acc i)) ⟨[],none,none,rfl,fun b o _ e=>e,el,by rw[hacc];exact .nil⟩ ?_ ?_ ?_
 · rintro i σ H' hi ⟨zs,v2,v3,rfl,k',hl',hz⟩
   exact SqL.of (k' _ _ n3 e3)
 · rintro i x σ H' hx ⟨zs,v2,v3,rfl,k',hl',hz⟩
   obtain⟨R,hR,hac,hlen⟩:=itm i x hx;have tk':TK H5 H':=fun a xs e=>k' _ _ (ne_of e el (by intro z;cases z)) e
   obtain⟨ra,rs,rfl,hra,hrs⟩:=hR;have hrl:=paired_len hrs;walk_at "W";refine⟨ra,rfl,⟨_,SqT.of (tk' _ _ hra)⟩,?_⟩;refine for_tup (xs:=rs) (fun j σ H''=>∃(zs:List V) (v3:Option V),σ=[some (.ref u),some (.ref l),some (.ref ra),v3]/\KeepBut l H5 H''/\H'' l=some (.lst zs)/\Prs H'' zs (acc i++(R.take j).flatten)) ⟨zs,v3,rfl,k',hl',by rw[List.take_zero,List.flatten_nil,List.append_nil];exact hz⟩ ?_ ?_ ?_
   · rintro j σ H'' _ ⟨zs,v3,rfl,k'',hl'',hz⟩
     exact SqT.of (k'' _ _ (ne_of hra el (by intro z;cases z)) hra)
   · rintro j y σ H'' hy ⟨zs,v3,rfl,k'',hl'',hz⟩
     obtain⟨r,hr_,b,ys,rfl,hb,hps⟩:=paired_get hrs hy;have tk'':TK H5 H'':=fun a xs e=>k'' _ _ (ne_of e el (by intro z;cases z)) e
     have hb2:=tk'' _ _ hb;have hps2:=hps.keep tk'';have hyl:=hps.len;have hzl:zs.length+r.length<=100000:=by
      have h1:=hz.len;rw[List.length_append,flatten_len]at h1;have h2:=tot_take R (j+1);rw[take_snocF hr_]at h2;have h3:tot (R.take j++[r])=tot (R.take j)+r.length:=by
       unfold tot;rw[List.map_append,List.sum_append];simp
      omega
     walk_at "W";refine wBM ?_;walk_at "W";refine⟨.inl ⟨rfl,_,SqL.of hl''⟩,?_⟩;walk_at "W";refine⟨l,b,zs,ys,rfl,rfl,hl'',SqT.of hb2,by omega,?_⟩
     have tkx:TK H'' (upd H'' l (.lst (zs++ys))):=fun a xs e=>by rw[upd_ne (ne_of e hl'' (by intro z;cases z))];exact e
     walk_at "W";refine⟨zs++ys,_,rfl,fun b o n e=>?_,upd_same,?_⟩
     · rw[upd_ne n]
       exact k'' _ _ n e
     rw[flat_take hr_,← List.append_assoc];exact paired_append (hps2.keep tkx) (hz.keep tkx)
   rintro σ H'' ⟨zs,v3,rfl,k'',hl'',hz⟩;rw[hrl,List.take_length,← hac]at hz;walk_at "W";exact⟨zs,_,_,rfl,k'',hl'',hz⟩
 rintro σ H' ⟨zs,v2,v3,rfl,k',hl',hz⟩;have e2:acc [va,vn].length=allP M:=by rw[hacc];rfl
 rw[e2]at hz;walk_at "W";refine⟨l,zs,allP M,rfl,hl',hz,rfl,fun l6 ws qs hl6 _ h1 h2 h3=>?_⟩;have s6:=Same.new (o:=.lst ws) hl6;have nl6:H l6=none:=by
  cases e:H l6 with
  | none=>rfl
  | some o=>rw[k' _ _ (ne_of_none e hl) (s05 _ _ e)]at hl6;cases hl6
 exact k l6 ws _ (fun b o e=>s6 _ _ (k' _ _ (ne_of_none e hl) (s05 _ _ e))) nl6 upd_same ⟨qs,(show Prs H' ws qs from h1).keep (SW.Same.tk s6),h2,h3⟩
theorem wd_row{r:MRow}(h:r.length<=100000):Wd1 (rowD r):=fun ds e=>by
 unfold rowD at e;injection e with e;rw[← e,List.length_map];exact h
theorem wd_rows{R:MRows}(h1:R.length<=100000)(h2:tot R<=100000):Wd2 (rowsD R):=fun ds e=>by
 unfold rowsD at e;injection e with e;rw[← e,List.length_map];refine⟨h1,fun x hx=>?_⟩;obtain⟨r,hr,rfl⟩:=List.mem_map.mp hx;refine wd_row (Nat.le_trans ?_ h2);clear hx e h1 h2
 induction R with
 | nil=>cases hr
 | cons q R ih=>
   show r.length<=q.length+tot R;rcases List.mem_cons.mp hr with rfl | hr
   · omega
   have:=ih hr;omega
theorem wd_state{f m:Int}{M:MT}(T:TOk f m M)(h:SW.cnt M<=100000):Wd3 (stD (staOf M))/\BigD (stD (staOf M)):=by
 have h1:=allP_len M;unfold allP at h1;rw[List.length_append,flatten_len,flatten_len]at h1;have sz:∀{n:Nat},isSize n->n<=100000:=fun {n} z=>by
  unfold isSize at z;simp only[List.mem_cons,List.not_mem_nil,or_false]at z;omega
 refine⟨fun ds e x hx=>?_,fun S e=>?_⟩
 · unfold stD at e
   injection e with e;rw[← e]at hx;simp only[List.mem_cons,List.not_mem_nil,or_false]at hx;rcases hx with rfl | rfl | rfl
   · show Wd2 (elD M.el)
     cases e2:M.el with
     | none=>intro ds z;cases z
     | some E=>exact wd_rows (sz (T.el E e2).2.1) (by rw[e2]at h1;have h3:tot E+tot M.nw=SW.cnt M:=h1;omega)
   · intro ds z;cases z
   exact wd_rows (R:=M.nw) (sz T.sz) (by omega)
 obtain rfl:=stD_inj e;show tot (M.el.getD [])+tot M.nw<=100000;omega
theorem prs_ps{K:W.Frag}{H:Hp}:∀{zs:List V}{r:MRow},Prs H zs r -> ∃ ps:List (Addr×Int×V),zs=ps.map (fun p=>V.ref p.1)/\(∀ p∈ps,SqT K H p.1 [.int p.2.1,p.2.2])/\ps.map (fun p=>(p.2.1,p.2.2))=r.map (fun q=>(q.1,V.int q.2))
 | _,_,.nil=>⟨[],rfl,(fun p hp=>nomatch hp),rfl⟩
 | _,_,.cons h t=>by
   obtain⟨ps,e1,e2,e3⟩:=prs_ps (K:=K) t;obtain⟨b,rfl,hb⟩:=h;refine⟨(b,_,_)::ps,by rw[List.map_cons,e1],fun p hp=>?_,by rw[List.map_cons,List.map_cons,e3]⟩
   rcases List.mem_cons.mp hp with rfl | hp
   · exact SqT.of hb
   exact e2 p hp
theorem kall_flat(R:MRows):kall R=R.flatten.map (·.1):=by
 unfold kall
 induction R with
 | nil=>rfl
 | cons r R ih=>rw[List.flatMap_cons,List.flatten_cons,List.map_append,ih]
theorem row_ok{R:MRows}{r:MRow}(h:(kall R).Nodup)(hr:r∈R):ROk r:=by
 obtain⟨a,b,rfl⟩:=List.append_of_mem hr;rw[kall_app]at h;have h:=(List.nodup_append.mp h).2.1;have h:(r.map (·.1)++kall b).Nodup:=h;exact(List.nodup_append.mp h).1
theorem inpl_pok{f m mv:Int}{R:MRows}(h:InPl f m mv R)(nd:(kall R).Nodup):POk f m R:=by
 refine⟨fun i r p hr hp=>?_,fun r hr=>row_ok nd hr⟩;have h0:0 < R.length:=Nat.lt_of_le_of_lt (Nat.zero_le _) (List.getElem?_eq_some_iff.mp hr).1;have e:=plc_int (f:=f) (m:=m) (k:=p.1) h0;rw[(h i r hr p hp).1]at e;exact Int.ofNat.inj e
theorem TabOk.tok{f m:Int}{S:Sta}(h:TabOk f m S):∃ M:MT,staOf M=S/\TOk f m M/\Rat M/\M.el=S.el/\M.nw=S.nw:=by
 obtain⟨h1,h2,h3,h4,h5,bb,tt⟩:=h;unfold rightP at h1;unfold rightM at h2;rw[Bool.and_eq_true]at h1 h2;obtain⟨p1,p2⟩:=h1;obtain⟨q1,q2⟩:=h2;have p1:isSize S.nw.length:=of_decide_eq_true p1;have q1:0<=S.mv:=of_decide_eq_true q1;have q2:=of_decide_eq_true q2;have em:((S.mv.toNat:Nat):Int)=S.mv:=Int.toNat_of_nonneg q1;have nds:=List.nodup_append.mp h5;have pn:=inpl_pok h4 nds.2.1;refine⟨⟨S.el,S.mv.toNat,S.nw⟩,?_,⟨pn,p1,fun E e=>?_,fun e=>?_⟩,fun E e=>?_,rfl,rfl⟩
 · show Sta.mk S.el ((S.mv.toNat:Nat):Int) S.nw=S
   rw[em]
 · have e:S.el=some E:=e
   rw[e]at p2 q2 h3 nds h5;have p2:(decide (isSize E.length) && (decide (E.length=2*S.nw.length) || decide (S.nw.length=2*E.length)))=true:=p2;rw[Bool.and_eq_true]at p2;have q2:S.mv < (E.length:Int):=q2;have pe:=inpl_pok h3 nds.1;refine⟨pe,of_decide_eq_true p2.1,by show S.mv.toNat < E.length;omega,fun i r hi hr=>?_,fun k hk=>?_⟩
   · cases r with
     | nil=>rfl
     | cons x xs=>exact absurd (show(i:Int) < S.mv by have hi:i < S.mv.toNat:=hi;omega) (h3 i _ hr x List.mem_cons_self).2
   cases e1:sLook f m E k with
   | none=>exact absurd e1 hk
   | some v=>
     cases e2:sLook f m S.nw k with
     | none=>rfl
     | some v'=>
       have m1:k∈kall E:=by rw[kall_flat];exact List.mem_map_of_mem (f:=(·.1)) ((memFlat (p:=(k,v)) pe).mpr e1)
       have m2:k∈kall S.nw:=by rw[kall_flat];exact List.mem_map_of_mem (f:=(·.1)) ((memFlat (p:=(k,v')) pn).mpr e2)
       exact absurd rfl (nds.2.2 k m1 k m2)
 · have e:S.el=none:=e
   rw[e]at q2;have q2:S.mv < 1:=q2;show S.mv.toNat=0;omega
 have e:S.el=some E:=e;rw[e]at p2;have p2:(decide (isSize E.length) && (decide (E.length=2*S.nw.length) || decide (S.nw.length=2*E.length)))=true:=p2;rw[Bool.and_eq_true,Bool.or_eq_true]at p2;rcases p2.2 with z | z
 · exact .inl (of_decide_eq_true z)
 exact .inr (of_decide_eq_true z)
theorem stu_of{H:Hp}{v:V}{M:MT}(h:StV H v (staOf M)):StU H v M:=by
 obtain⟨a,e,w,rfl,ha,he,hw⟩:=h;refine⟨a,e,w,rfl,ha,?_,hw⟩;have he:ElV H e M.el:=he;cases z:M.el with
 | none=>rw[z]at he;exact he
 | some E=>rw[z]at he;exact he
def spTableOf(C CT:Addr):Sp:=fun vs H Q _=>∃(v:V) (t:Addr) (n f m:Int) (M:MT),vs=[v,.ref t,.int n]/\StU H v M/\TOk f m M/\Rat M/\(∀ p∈allP M,InB p)/\SW.cnt M<=5000/\H t=some (.tup [.int f,.int m])/\(0<=f/\f<=65535)/\0<=n /\ ∀ p H' F,Tb C CT H' p f m n.toNat M 0 F->(∀ b,F b->H b=none)->Same H H'->Q (.ref p) H'
theorem wTableOf{C CT:Addr}{v:V}{t:Addr}{n f m:Int}{M:MT}{H:Hp}{Q:VK}{E:XK}(h1:StU H v M)(h2:TOk f m M)(h3:Rat M)(h4:∀ p∈allP M,InB p)(h5:SW.cnt M<=5000)(h6:H t=some (.tup [.int f,.int m]))(h7:0<=f/\f<=65535)(h8:0<=n)(k:∀ p H' F,Tb C CT H' p f m n.toNat M 0 F->(∀ b,F b->H b=none)->Same H H'->Q (.ref p) H'):spTableOf C CT ([v,.ref t,.int n]++[]) H Q E:=⟨v,t,n,f,m,M,rfl,h1,h2,h3,h4,h5,h6,h7,h8,k⟩
def spSettled:Sp:=fun vs H Q _=>∃(v:V) (M:MT) (n:Nat),vs=[v,.int (n:Nat)]/\StU H v M/\M.el=none/\n<=M.nw.length/\(M.nw.length=4∨M.nw.length<=8*n)/\n<=5000/\Q (.bl true) H
theorem wSettled{v:V}{M:MT}{n:Nat}{H:Hp}{Q:VK}{E:XK}(h1:StU H v M)(h2:M.el=none)(h3:n<=M.nw.length)(h4:M.nw.length=4∨M.nw.length<=8*n)(h5:n<=5000)(k:Q (.bl true) H):spSettled ([v,.int (n:Nat)]++[]) H Q E:=⟨v,M,n,rfl,h1,h2,h3,h4,h5,k⟩
theorem q49_(d:Dfn K mg "table_of" z57_ ["state","mixer","pace"])(g:Gs K mg C CT)(q10_:Fn P w K mg base "is_sound" 7 ["state","mixer"] spSoundA)(q56_:Mkr P w K mg base CT "Table" 6 ["self","mixer","pace","state"] (spTInit C CT)):Fn P w K mg base "table_of" 8 ["state","mixer","pace"] (spTableOf C CT):=by
 refine d.fn z116_ (fun vs H Q E h=>?_) (fun f' cdv A outer st H vs Q E hr h=>?_)
 · obtain⟨v,t,n,f,m,M,rfl,_⟩:=h
   rfl
 obtain⟨v,t,n,f,m,M,rfl,hv,T,R,hb,hc,ht,hf,hn,k⟩:=h;obtain⟨w3,bd⟩:=wd_state T (Nat.le_trans hc (by decide))
 have hst:=stD_ok hb;have hsd:=T.sound R;refine⟨_,(B.scons (B.ifs (B.tnot (B.tval (B.fn q10_ hr.up (B.cons (B.v 0) (B.cons (B.v 1) B.nil))))) (B.sone B.never) B.snil)
  (B.sone (B.ret (B.make q56_ hr.up (B.cons (B.v 1) (B.cons (B.v 2) (B.cons (B.v 0) B.nil))))))),?_⟩
 walk_at "W";refine wSoundA (st_any hv.stv) w3 bd ht hf fun H2 b s2 _ hb=>?_;have eb:b=true:=(hb hst _ rfl).trans (by rw[hsd];rfl)
 subst eb;walk_at "W";refine iteF ?_;walk_at "W";refine wTableG (n:=n) (s2 _ _ ht) hf hn T hc (.inr (hv.keep (KeepT.same s2))) fun tb H3 F S3 n3 s3=>?_;walk_at "W";exact k tb H3 F S3 (fun b hb=>s2.free (n3 b hb)) (s2.trans s3)
theorem q41_(d:Dfn K mg "_law_settled" z48_ ["state","many"])(g:Gs K mg C CT):Fn P w K mg base "_law_settled" 1 ["state","many"] spSettled:=by
 refine d.fn z107_ (fun vs H Q E h=>?_) (fun f' cdv A outer st H vs Q E hr h=>?_)
 · obtain⟨v,M,n,rfl,_⟩:=h
   rfl
 obtain⟨v,M,n,rfl,⟨a,e,w,rfl,ha,he,hw⟩,h2,h3,h4,h5,k⟩:=h;rw[h2]at he;obtain rfl:e=.non:=he;obtain⟨aw,xw,rfl,haw,hxw⟩:=hw;have hxl:xw.length=M.nw.length:=paired_len hxw;refine⟨_,(B.scons (B.set 2 z107_.nd (B.cB call_len_seq g.b_len SW.b_len (B.cons (B.ix ix_tup (B.v 0) B.int) B.nil)))
  (B.sone (B.ret (B.and (B.cmp op_isN (B.ix ix_tup (B.v 0) B.int) B.non) (B.and (B.cmp op_le (B.v 1) (B.v 2)) (B.one (B.or (B.cmp op_eq (B.v 2) B.int) (B.one (B.cmp op_le (B.v 2) (B.op op_mul B.int (B.v 1))))))))))),?_⟩
 walk_at "W";refine SW.iLen (.inr (SqT.of haw)) ?_;rw[hxl];walk_at "W";refine⟨rfl,?_⟩;refine⟨_,rfl,?_⟩;refine iteY rfl ?_;walk_at "W";refine iteY (by omega) ?_
 walk_at "W";by_cases h:M.nw.length=4
 · exact iteY (by rw[h];rfl) k
 refine iteNo (fun z=>h (by injection z with z;omega)) ?_
 walk_at "W";rw[decide_eq_true (show((M.nw.length:Nat):Int)<=8*(n:Int) by omega)]
 exact k
def spRight42(C CT:Addr):Sp:=fun vs H Q _=>∃(p t:Addr) (v:V) (n f m:Int) (M:MT),vs=[.ref p,v,.ref t,.int n]/\Row H p/\StU H v M/\TOk f m M/\Rat M/\(∀ p∈allP M,InB p)/\SW.cnt M<=39/\M.nw.length<=64/\(∀ E,M.el=some E->E.length<=64)/\H t=some (.tup [.int f,.int m])/\(0<=f/\f<=65535)/\1<=n/\n<=8 /\ ∀ H',Row H' p->KeepBut p H H'->Q (.bl true) H'
theorem wRight42{C CT p t:Addr}{v:V}{n f m:Int}{M:MT}{H:Hp}{Q:VK}{E:XK}(h1:Row H p)(h2:StU H v M)(h3:TOk f m M)(h4:Rat M)(h5:∀ p∈allP M,InB p)(h6:SW.cnt M<=39)(h7:M.nw.length<=64)(h8:∀ E,M.el=some E->E.length<=64)(h9:H t=some (.tup [.int f,.int m]))(h10:0<=f/\f<=65535)(h11:1<=n)(h12:n<=8)(k:∀ H',Row H' p->KeepBut p H H'->Q (.bl true) H'):spRight42 C CT ([.ref p,v,.ref t,.int n]++[]) H Q E:=⟨p,t,v,n,f,m,M,rfl,h1,h2,h3,h4,h5,h6,h7,h8,h9,h10,h11,h12,k⟩
theorem rowF{H H':Hp}{p:Addr}{G:Addr->Prop}(r:Row H p)(k:SW.Fr G H H')(h:¬ G p):Row H' p:=by
 obtain⟨a,b,c,e,z⟩:=r;exact⟨a,b,c,k _ _ h e,z⟩
theorem dictP_eq{ps:List (Int×V)}(h:(ps.map (·.1)).Nodup):dictP ps=ps.map fun p=>(Sum.inl p.1,p.2):=by
 have gen:∀(ps:List (Int×V)) (kv:List (Key×V)),(ps.map (·.1)).Nodup->(∀ q∈kv,∀ p∈ps,q.1≠Sum.inl p.1)->ps.foldl (fun kv p=>putK kv (.inl p.1) p.2) kv=kv++ps.map fun p=>(Sum.inl p.1,p.2):=by
  intro ps
  induction ps with
  | nil=>intro kv _ _;exact(List.append_nil _).symm
  | cons p r ih=>
    intro kv nd hk;have nd':p.1∉r.map (·.1)/\(r.map (·.1)).Nodup:=List.nodup_cons.mp nd;rw[List.foldl_cons,putK_new fun q hq=>hk q hq p List.mem_cons_self,ih _ nd'.2 fun q hq p' hp'=>?_,List.append_assoc]
    · rfl
    rcases List.mem_append.mp hq with z | z
    · exact hk q z p' (List.mem_cons_of_mem _ hp')
    rw[List.mem_singleton.mp z];intro e;exact nd'.1 (List.mem_map.mpr ⟨p',hp',(Sum.inl.inj e).symm⟩)
 exact gen ps [] h (fun q hq=>nomatch hq)
theorem prs_lay(r:MRow):(PyData.list (r.map fun p=>PyData.tuple [.int p.1,.int p.2])).canLay0=true:=by
 induction r with
 | nil=>rfl
 | cons z zs ih=>exact ih
theorem prs_depth(r:MRow):(PyData.list (r.map fun p=>PyData.tuple [.int p.1,.int p.2])).depth<=60:=by
 have:PyData.depthAll (r.map fun p=>PyData.tuple [.int p.1,.int p.2])<=5:=by
  induction r with
  | nil=>decide
  | cons y ys ih=>simp only[List.map_cons,PyData.depthAll,PyData.depth];omega
 simp only[PyData.depth];omega
structure I42(C CT p tb l dd t:Addr)(f m:Int)(pc:Nat)(M:MT)(ws:List V)(qs:MRow)(H0:Hp)(i:Nat)(tc:Int)(F:Addr->Prop)(H:Hp):Prop where
 S:Tb C CT H tb f m pc (lks f m pc i M) tc F
 r:Row H p
 np:¬ F p
 hl:H l=some (.lst ws)
 nl:¬ F l
 pr:Prs H ws qs
 hd:H dd=some (.dK (kvs qs))
 nd:¬ F dd
 ht:H t=some (.tup [.int f,.int m])
 k:KeepBut p H0 H
 n0:∀ b,F b->H0 b=none
 nlp:l≠p
section
variable{C CT p tb l dd t:Addr}{f m:Int}{pc:Nat}{M:MT}{ws:List V}{qs:MRow}{H0 H H':Hp}{i:Nat}{tc:Int}{F:Addr->Prop}
theorem I42.same(I:I42 C CT p tb l dd t f m pc M ws qs H0 i tc F H)(k:Same H H'):I42 C CT p tb l dd t f m pc M ws qs H0 i tc F H':=
 ⟨I.S.same k,I.r.same k,I.np,k _ _ I.hl,I.nl,I.pr.keep (SW.Same.tk k),k _ _ I.hd,I.nd,k _ _ I.ht,I.k.trans (SW.Same.but k),I.n0,I.nlp⟩
theorem I42.row(I:I42 C CT p tb l dd t f m pc M ws qs H0 i tc F H)(r:Row H' p)(k:KeepBut p H H'):I42 C CT p tb l dd t f m pc M ws qs H0 i tc F H':=by
 have tk:TK H H':=rowTK I.r k;obtain⟨a,b,c,e,_⟩:=I.r;have nlp:=I.nlp;have ndp:dd≠p:=ne_of I.hd e (by intro z;cases z)
 exact⟨I.S.keep (G:=fun b=>b=p) (fun b o n e=>k b o n e) (fun b hb z=>I.np (z ▸ hb)) (fun b xs e' z=>by subst z;rw[e]at e';cases e'),r,I.np,k _ _ nlp I.hl,I.nl,I.pr.keep tk,k _ _ ndp I.hd,I.nd,tk _ _ I.ht,I.k.trans k,I.n0,I.nlp⟩
theorem I42.look(I:I42 C CT p tb l dd t f m pc M ws qs H0 i tc F H){tc':Int}{F':Addr->Prop}(S':Tb C CT H' tb f m pc (mLook f m pc (lks f m pc i M)) tc' F')(g:Gr H F F')(k:Fr F H H'):I42 C CT p tb l dd t f m pc M ws qs H0 (i+1) tc' F' H':=by
 obtain⟨hl,nl⟩:=by_ I.hl I.nl g k;obtain⟨hd,nd⟩:=by_ I.hd I.nd g k;have kt:=I.S.keepT k;have np:¬ F' p:=by
  obtain⟨a,b,c,e,_⟩:=I.r;exact(by_ e I.np g k).2
 refine⟨S',rowF I.r k I.np,np,hl,nl,I.pr.keep kt,hd,nd,kt _ _ I.ht,fun b o n e=>k _ _ (fun z=>?_) (I.k _ _ n e),fun b hb=>?_,I.nlp⟩
 · rw[I.n0 b z]at e;cases e
 rcases g b hb with z | z
 · exact I.n0 b z
 cases e:H0 b with
 | none=>rfl
 | some o=>
   have nbp:b≠p:=fun y=>by
    obtain⟨_,_,_,e',_⟩:=I.r;rw[y,e']at z;cases z
   rw[I.k b o nbp e]at z;cases z
end
theorem q37_(d:Dfn K mg "_law_right" z47_ ["row","state","mixer","pace"])(g:Gs K mg C CT)(q10_:Fn P w K mg base "is_sound" 7 ["state","mixer"] spSoundA)(q50_:Fn P w K mg base "table_of" 8 ["state","mixer","pace"] (spTableOf C CT))(q70_:Mt P w K mg base CT "look" 7 ["self","key"] (spTLook C CT))(q74_:Mt P w K mg base CT "state" 5 ["self"] (spTState C CT))(q75_:Mt P w K mg base CT "touched" 1 ["self"] (spTTouched C CT))(q18_:Fn P w K mg base "_law_key" 2 ["row"] spKey)(q20_:Fn P w K mg base "_law_pairs" 1 ["state"] spPairs42)(q22_:Fn P w K mg base "_law_settled" 1 ["state","many"] spSettled):Fn P w K mg base "_law_right" 9 ["row","state","mixer","pace"] (spRight42 C CT):=by
 refine d.fn z106_ (fun vs H Q E h=>?_) (fun f' cdv A outer st H vs Q E hr h=>?_)
 · obtain⟨p,t,v,n,f,m,M,rfl,_⟩:=h
   rfl
 obtain⟨p,t,v,n,f,m,M,rfl,hp,hv,T,R,hb,hc,hn64,he64,ht,hf,n1,n8,k⟩:=h;have lim:sizeLine=16777216:=sizeLine_eq;obtain⟨pc,rfl⟩:=Int.eq_ofNat_of_zero_le (show 0<=n by omega)
 have hpc:pc<=1000:=by omega
 refine⟨_,(B.scons (B.set 4 z106_.nd (B.fn q50_ hr.up (B.cons (B.v 1) (B.cons (B.v 2) (B.cons (B.v 3) B.nil)))))
  (B.scons (B.set 5 z106_.nd (B.fn q20_ hr.up (B.cons (B.v 1) B.nil)))
  (B.scons (B.set 6 z106_.nd (B.cT SW.call_dictP g.b_dict SW.b_dict (B.cons (B.v 5) B.nil)))
  (B.scons (B.fors (B.irange g.b_range (B.cons (B.op op_add (B.op op_fdivL B.int (B.v 3)) B.int) B.nil)) (B.gname (i:=7) z106_.nd) (B.scons (B.set 8 z106_.nd (B.fn q18_ hr.up (B.cons (B.v 0) B.nil)))
  (B.scons (B.ifs (B.tw (B.wand (B.tcmp (op_neLE (hu1_of hr)) (B.v 5) (B.lst B.nil)) (B.wand1 (B.tcmp op_eq (B.op op_mod (B.v 7) B.int) B.int)))) (B.sone (B.set 8 z106_.nd (B.ix ix_tup (B.ix ix_list (B.v 5) (B.op op_mod (B.v 7) (B.cB call_len_seq g.b_len SW.b_len (B.cons (B.v 5) B.nil)))) B.int))) B.snil)
  (B.scons (B.ifs (B.tw (B.wor (B.tcmp op_ne (B.meth (B.v 4) g.cl_Table q70_ hr.up (B.cons (B.v 8) B.nil)) (B.dget1 (hu_of hr) (B.v 6) (B.v 8) (m:=B.m1))) (B.wor1 (B.tnot (B.tchain op_le op_le B.int (B.meth0 (B.v 4) g.cl_Table q75_ hr.up) (B.op op_add (B.op op_mul B.int (B.v 3)) B.int)))))) (B.sone (B.ret B.bl)) B.snil)
  (B.sone (B.ifs (B.tcmp op_eq (B.op op_mod (B.v 7) B.int) B.int) (B.scons (B.set 1 z106_.nd (B.meth0 (B.v 4) g.cl_Table q74_ hr.up))
  (B.sone (B.ifs (B.tw (B.wor (B.tnot (B.tval (B.fn q10_ hr.up (B.cons (B.v 1) (B.cons (B.v 2) B.nil))))) (B.wor1 (B.tcmp (op_neD K hr.units) (B.fn q20_ hr.up (B.cons (B.v 1) B.nil)) (B.v 5))))) (B.sone (B.ret B.bl)) B.snil))) B.snil))))))
  (B.scons (B.set 9 z106_.nd (B.meth0 (B.v 4) g.cl_Table q74_ hr.up))
  (B.scons (B.ifs (B.tw (B.wor (B.tnot (B.tval (B.fn q22_ hr.up (B.cons (B.v 9) (B.cons (B.cB call_len_seq g.b_len SW.b_len (B.cons (B.v 5) B.nil)) B.nil))))) (B.wor1 (B.tcmp op_ne (B.meth (B.v 4) g.cl_Table q70_ hr.up (B.cons B.int B.nil)) (B.dget1 (hu_of hr) (B.v 6) B.int (m:=B.m1)))))) (B.sone (B.ret B.bl)) B.snil)
  (B.sone (B.ret (B.and (B.cmp (op_eqD K hr.units) (B.meth0 (B.v 4) g.cl_Table q74_ hr.up) (B.v 9)) (B.one (B.cmp (op_eqD K hr.units) (B.fn q20_ hr.up (B.cons (B.v 9) B.nil)) (B.v 5)))))))))))),?_⟩
 walk_at "W";refine wTableOf hv T R hb (by omega) ht hf (by omega) fun tb H1 F1 S1 n1' s1=>?_
 have epc:Int.toNat (pc:Int)=pc:=Int.toNat_natCast pc;rw[epc]at S1;have v1:=hv.keep (KeepT.same s1);walk_at "W";refine wPairs42 v1.stv (by omega) fun l ws H2 s2 nl1 hl hq=>?_
 obtain⟨qs,pr,pm,srt⟩:=hq;have okq:ROk qs:=ROk.perm T.pairs pm;have hlk:=look_all T pm;obtain⟨ps,e1,e2,e3⟩:=prs_ps (K:=K) pr;have hwl:ws.length=SW.cnt M:=by rw[pr.len,pm.length_eq];exact allP_len M
 have hpl:ps.length=SW.cnt M:=by rw[← hwl,e1,List.length_map]
 have hdk:dictP (ps.map fun p=>(p.2.1,p.2.2))=kvs qs:=by
  rw[e3,dictP_eq (by rw[List.map_map];exact okq),List.map_map]
  rfl
 walk_at "W";refine⟨l,ps,rfl,SqL.of (e1 ▸ hl),e2,by omega,fun dd hdd=>?_⟩
 rw[hdk];have s3:=Same.new (o:=.dK (kvs qs)) hdd;have s12:=s1.trans s2;have s13:=s12.trans s3;have nlp:l≠p:=fun z=>by
  obtain⟨_,_,_,e,_⟩:=hp;rw[z,s1 _ _ e]at nl1;cases nl1
 have I0:I42 C CT p tb l dd t f m pc M ws qs H 0 0 F1 (upd H2 dd (.dK (kvs qs))):=
  ⟨S1.same (s2.trans s3),hp.same s13,fun z=>(by obtain⟨_,_,_,e,_⟩:=hp;rw[n1' p z]at e;cases e),s3 _ _ hl,?_,pr.keep (SW.Same.tk s3),upd_same,?_,s13 _ _ ht,SW.Same.but s13,n1',nlp⟩
 rotate_left
 · exact S1.fresh nl1
 · exact fun z=>by
    have:=(S1.same s2).live z;obtain⟨o,e,_⟩:=this;rw[hdd]at e;cases e
 generalize upd H2 dd (.dK (kvs qs))=H3 at *;obtain⟨dq,hdq⟩:∃ dq,dq=260 / pc:=⟨_,rfl⟩;have hdv:(260:Int) / (pc:Int)=(dq:Int):=by rw[hdq];exact(Int.natCast_ediv 260 pc).symm
 have hdl:dq<=260:=by rw[hdq];exact Nat.div_le_self 260 pc
 have hcnt:(260 / (pc:Int)+8).toNat=260 / pc+8:=by rw[hdv,← hdq];exact Int.toNat_natCast (dq+8)
 walk_at "W";refine⟨260 / (pc:Int)+8,rfl,by rw[hdv];omega,by rw[hdv];omega,?_⟩
 rw[hcnt];refine SW.forRangeC (fun i σ H'=>∃(v1:V) (v7 v8:Option V) (tc:Int) (F:Addr->Prop),σ=[some (.ref p),some v1,some (.ref t),some (.int (pc:Int)),some (.ref tb),some (.ref l),some (.ref dd),v7,v8,none]/\I42 C CT p tb l dd t f m pc M ws qs H i tc F H') ⟨v,none,none,0,F1,rfl,I0⟩ ?_ ?_
 · rintro i σ H4 hi ⟨v1,v7,v8,tc,F,rfl,I⟩
   walk_at "W";refine wKey I.r fun ky H5 _ _ R5 K5=>?_;have I5:=I.row R5 K5;walk_at "W";refine⟨by show(0:Nat)<=sizeLine;decide,fun z0 hz0=>?_⟩
   have a6:=Same.new (o:=.lst []) hz0;have I6:=I5.same a6;refine⟨l,z0,ws,rfl,rfl,SqL.of I6.hl,SqL.of upd_same,?_⟩;generalize upd H5 z0 (.lst [])=H6 at *;clear I I5 K5 R5 a6 hz0;obtain⟨T',R',hlk',hc'⟩:=lks_ok (pc:=pc) T R i;rename_i N hN;have rest:∀ ky',N [some (.ref p),some v1,some (.ref t),some (.int (pc:Int)),some (.ref tb),some (.ref l),some (.ref dd),some (.int (0+(i:Int))),some (.int ky'),none] H6:=by
    intro ky';refine SW.wGo hN ?_;walk_at "W";refine wT I6.S nt_look ?_;walk_at "W";refine wTLook I6.S T' hpc (by omega) fun H7 F7 S7 g7 k7=>?_
    have I7:=I6.look S7 g7 k7;walk_at "W";refine⟨dd,rfl,.inl ⟨_,.inl I7.hd⟩,?_⟩;walk_at "W";refine⟨_,DGet.k (k:=Sum.inl ky') I7.hd,?_⟩;rw[oV_getD];walk_at "W";refine⟨oV_scal _ _,?_⟩;walk_at "W";refine iteNS (by rw[hlk',hlk]) ?_
    walk_at "W";refine wT I7.S nt_touched ?_;walk_at "W";refine wTTouched I7.S ?_;walk_at "W";have tp:=tch_pos (f:=f) (m:=m) (pc:=pc) (M:=lks f m pc i M) (k:=ky');have tl:=tch_le (pc:=pc) (k:=ky') T' R';refine iteY (by omega) ?_
    walk_at "W";refine iteNS (by omega) ?_
    walk_at "W";obtain⟨T2,R2,hlk2,hc2⟩:=lks_ok (pc:=pc) T R (i+1);by_cases h16:(0+(i:Int)) % 16=3
    · refine iteY (by rw[h16]) ?_
      walk_at "W";refine wT I7.S nt_state ?_;walk_at "W";refine wTState I7.S fun v9 H8 s8 u8=>?_;have I8:=I7.same s8;obtain⟨w3,bd⟩:=wd_state T2 (by omega)
      have pm2:=all_lks (pc:=pc) T R (i+1);have hst:=stD_ok fun p hp=>hb p (pm2.mem_iff.mp hp);have hsd:=T2.sound R2;walk_at "W";refine wSoundA (st_any u8.stv) w3 bd I8.ht hf fun H9 b s9 _ hb9=>?_;have eb:b=true:=(hb9 hst _ rfl).trans (by rw[hsd];rfl)
      subst eb;have I9:=I8.same s9;have u9:=u8.keep (KeepT.same s9);walk_at "W";refine iteF ?_;walk_at "W";refine wPairs42 u9.stv (by omega) fun l' ws' H10 s10 _ hl' hq'=>?_
      obtain⟨qs',pr',pm',srt'⟩:=hq';obtain rfl:qs'=qs:=sorted_one srt' srt (pm'.trans (pm2.trans pm.symm));have I10:=I9.same s10;walk_at "W";refine wNeSame (d:=.list (qs'.map fun p=>PyData.tuple [.int p.1,.int p.2])) (.lst (SqL.of hl') (Prs.dat pr')) (.lst (SqL.of I10.hl) (Prs.dat I10.pr)) (prs_lay qs') (prs_depth qs') ?_;walk_at "W";refine iteF ?_;walk_at "W";exact⟨_,_,_,_,_,rfl,I10⟩
    refine iteNo (fun z=>h16 (by injection z)) ?_
    walk_at "W";exact⟨_,_,_,_,_,rfl,I7⟩
   clear hN;walk_at "W";cases hemp:ws.isEmpty with
   | true=>
     refine iteF ?_;walk_at "W";exact rest ky
   | false=>
     have hw0:0 < ws.length:=by
      cases hws:ws with
      | nil=>rw[hws]at hemp;cases hemp
      | cons _ _=>exact Nat.zero_lt_succ _
     refine iteT ?_;walk_at "W";refine ite2 (fun _=>?_) (fun _=>?_)
     · walk_at "W"
       refine SW.iLen (.inl (SqL.of I6.hl)) ?_;walk_at "W";have j0:=Int.emod_nonneg (0+(i:Int)) (show((ws.length:Nat):Int)≠0 by omega)
       have j1:=Int.emod_lt_of_pos (0+(i:Int)) (show(0:Int) < ((ws.length:Nat):Int) by omega)
       obtain⟨j,hj⟩:=Int.eq_ofNat_of_zero_le j0;rw[hj]at j1 ⊢;have hjl:j < ws.length:=by omega
       have exj:ws[j]?=some ws[j]:=List.getElem?_eq_getElem hjl;obtain⟨q,eq,c,ec,hc9⟩:=paired_get I6.pr exj;rw[ec]at exj;refine wIxL I6.hl (atI_nat exj) ?_;walk_at "W";exact rest q.1
     walk_at "W";exact rest ky
 rintro σ H4 ⟨v1,v7,v8,tc,F,rfl,I⟩;obtain⟨T',R',hlk',hc'⟩:=lks_ok (pc:=pc) T R (260 / pc+8);have hok:okS (SW.cnt (lks f m pc (260 / pc+8) M)) (shp (lks f m pc (260 / pc+8) M))=true:=by
  rw[hc',lks_shp T R];exact settle (by omega) (by omega) hc T.sz hn64 (fun x e=>by
   obtain⟨E',hE,rfl⟩:=Option.map_eq_some_iff.mp e;exact he64 E' hE) (fun e=>T.no (by cases z:M.el with | none=>rfl | some E'=>rw[z]at e;cases e))
 obtain⟨g1,g2,g3⟩:=settled_of T' (by omega) hok
 have stay:=look_stay (f:=f) (m:=m) (pc:=pc) hok;have pm2:=all_lks (pc:=pc) T R (260 / pc+8);rw[hc']at g2 g3;walk_at "W";refine wT I.S nt_state ?_;walk_at "W";refine wTState I.S fun vl H5 s5 u5=>?_;have I5:=I.same s5;walk_at "W";refine SW.iLen (.inl (SqL.of I5.hl)) ?_;rw[hwl];walk_at "W";refine wSettled u5 g1 g2 g3 (by omega) ?_
 walk_at "W";refine iteF ?_;walk_at "W";refine wT I5.S nt_look ?_;walk_at "W";refine wTLook I5.S T' hpc (by omega) fun H6 F6 S6 g6 k6=>?_
 have u6:=u5.keep (I5.S.keepT k6);have I6:=I5.look S6 g6 k6;walk_at "W";refine⟨dd,rfl,.inl ⟨_,.inl I6.hd⟩,?_⟩;walk_at "W";refine⟨_,DGet.k (k:=Sum.inl 7) I6.hd,?_⟩;rw[oV_getD];walk_at "W";refine⟨oV_scal _ _,?_⟩;walk_at "W";refine iteNS (by rw[hlk',hlk]) ?_
 walk_at "W";refine wT I6.S nt_state ?_;walk_at "W";refine wTState I6.S fun vl2 H7 s7 u7=>?_;have I7:=I6.same s7;have u67:=u6.keep (KeepT.same s7);have u7:StU H7 vl2 (lks f m pc (260 / pc+8) M):=by
  have e:lks f m pc (260 / pc+8+1) M=lks f m pc (260 / pc+8) M:=stay;rw[e]at u7;exact u7
 walk_at "W";refine wEqSt u7 u67 ?_;walk_at "W";refine iteT ?_;walk_at "W";refine wPairs42 u67.stv (by omega) fun l' ws' H8 s8 _ hl' hq'=>?_
 obtain⟨qs',pr',pm',srt'⟩:=hq';obtain rfl:qs'=qs:=sorted_one srt' srt (pm'.trans (pm2.trans pm.symm));have I8:=I7.same s8;walk_at "W";refine wEqSame (d:=.list (qs'.map fun p=>PyData.tuple [.int p.1,.int p.2])) (.lst (SqL.of hl') (Prs.dat pr')) (.lst (SqL.of I8.hl) (Prs.dat I8.pr)) (prs_lay qs') (prs_depth qs') ?_;walk_at "W";exact k H8 I8.r I8.k
theorem q43_(d:Dfn K mg "is_size" z36_ ["thing"])(g:Gs K mg C CT)(q12_:Fn P w K mg base "is_whole" 1 ["thing"] spWholeA):Fn P w K mg base "is_size" 2 ["thing"] spIsSizeB:=
 q44_ d g (q12_.imp fun vs H Q E h=>by
  obtain⟨i,rfl,q⟩:=h;exact⟨_,.int i,rfl,.int i,q⟩)
theorem q81_(d:Dk K mg C "Shelf" "Shelf.__init__" z0_ ["self","size","mixer"])(g:Gs K mg C CT)(q9_:Fn P w K mg base "is_size" 2 ["thing"] spIsSizeB):Mkr P w K mg base C "Shelf" 3 ["self","size","mixer"] (spSInit C):=
 q80_ d g (q9_.imp fun vs H Q E h=>by
  obtain⟨i,rfl,hi,q⟩:=h;exact⟨i,rfl,by rw[decide_eq_true hi];exact q⟩)
theorem q78_(d:Dm K C "check_place" "Shelf.check_place" z1_ ["self","place"])(g:Gs K mg C CT)(q12_:Fn P w K mg base "is_whole" 1 ["thing"] spWholeA):Mt P w K mg base C "check_place" 2 ["self","place"] (spSCheck C):=
 q77_ d g (q12_.imp fun vs H Q E h=>by
  obtain⟨i,rfl,q⟩:=h;exact⟨_,.int i,rfl,.int i,q⟩)
theorem ok_law{f:Addr}{fd:FuncData}(F:Fun K "law" "law" z42_ f fd)(g:Gs K mg C CT)
 (q23_:Fn P w K mg base "_law_stream" 1 ["cell"] spStream) (q25_:Fn P w K mg base "_law_take" 1 ["row","many"] spTake) (q19_:Fn P w K mg base "_law_mixer" 2 ["row"] spMixer) (q24_:Fn P w K mg base "_law_table_state" 3 ["row","mixer"] spTabSt) (q21_:Fn P w K mg base "_law_right" 9 ["row","state","mixer","pace"] (spRight42 C CT)) :
 FnOk P w K mg base CX0 10 f fd ["script"] (spLaw K):=by
 refine fun_bx F z101_ (fun vs H Q E h=>?_) (fun cdv A outer s H vs Q E hr h=>?_)
 · obtain⟨a,ns,rfl,_⟩:=h
   rfl
 obtain⟨a,ns,rfl,hS,hlen,k⟩:=h;have lim:sizeLine=16777216:=sizeLine_eq;refine⟨_,(B.scons (B.fors (B.ilist (B.op op_cat (B.lst (B.cons B.int B.nil)) (B.slice sl_list (B.v 0) B.nopart (B.part B.int)))) (B.gname (i:=1) z101_.nd) (B.scons (B.set 2 z101_.nd (B.fn q23_ hr.up (B.cons (B.v 1) B.nil)))
  (B.scons (B.set 3 z101_.nd (B.fn q19_ hr.up (B.cons (B.v 2) B.nil)))
  (B.sone (B.ifs (B.tnot (B.tval (B.fn q21_ hr.up (B.cons (B.v 2) (B.cons (B.fn q24_ hr.up (B.cons (B.v 2) (B.cons (B.v 3) B.nil))) (B.cons (B.v 3) (B.cons (B.op op_add B.int (B.fn q25_ hr.up (B.cons (B.v 2) (B.cons B.int B.nil)))) B.nil))))))) (B.sone (B.ret B.bl)) B.snil)))))
  (B.sone (B.ret B.bl))),?_⟩
 walk_at "W";refine⟨by show(1:Nat)<=sizeLine;decide,fun l1 h1=>?_⟩
 have s9:=Same.new (o:=.lst [.int 0]) h1;walk_at "W";refine⟨12,rfl,a,_,rfl,s9.seq hS,fun l2 h2=>?_⟩;obtain⟨cs,ecs,hcs⟩:=cut_ints ns none (some 12);rw[ecs];have s10:=Same.new (o:=.lst (cs.map V.int)) h2;walk_at "W";refine⟨l1,l2,_,_,rfl,rfl,s10 _ _ upd_same,upd_same,by rw[List.length_map];show 1+_<=sizeLine;omega,fun q hq=>?_⟩
 obtain⟨ds,hds⟩:∃ ds:List Int,ds=0::cs:=⟨_,rfl⟩;rw[show[V.int 0]++cs.map V.int=ds.map V.int by rw[hds];rfl]at *
 refine⟨q,rfl,⟨_,SqL.of upd_same⟩,?_⟩;refine SW.forListC (xs:=ds.map V.int) (fun i σ H'=>∃ v1 v2 v3:Option V,σ=[some (.ref a),v1,v2,v3]/\H' q=some (.lst (ds.map V.int))) ⟨none,none,none,rfl,upd_same⟩ (fun i σ H' _ ⟨_,_,_,_,h⟩=>SqL.of h) ?_ ?_
 · rintro i y σ H2 hi ⟨v1,v2,v3,rfl,hq2⟩
   obtain⟨c,rfl⟩:=getInt hi;walk_at "W";refine wStream fun p o hp R3=>?_;have s3:=Same.new (o:=o) hp;have q3:=s3 _ _ hq2;have nqp:q≠p:=ne_of_none hq2 hp;generalize upd H2 p o=H3 at *;walk_at "W";refine wMixer R3 fun t H4 mx R4 K4=>?_;have q4:=K4 _ _ nqp q3;obtain⟨f1,o1,hm,f10,f11,o10,o11⟩:=id mx;walk_at "W";refine wTabSt R4 hm ⟨f10,f11⟩ fun v H5 S sv szs tk R5 K5=>?_;have q5:=K5 _ _ nqp q4;have mx5:=mx.keep R4 K5;walk_at "W";refine wTake R5 (by decide) (by decide) fun r6 H6 r60 r61 R6 K6=>?_
   have q6:=K6 _ _ nqp q5;have hm6:=K6 _ _ (R5.ne (K5 _ _ (R4.ne hm) hm)) (K5 _ _ (R4.ne hm) hm);have sv6:=sv.keep (rowTK R5 K6);obtain⟨M,rfl,T,Rt,e1,e2⟩:=tk.tok;have hcn:SW.cnt M<=39:=by
    have:=tk.tt;rw[← allP_len M];unfold allP;rw[List.length_append,flatten_len,flatten_len];exact this
   walk_at "W";refine wRight42 R6 (stu_of sv6) T Rt tk.bb hcn szs.2.1 (fun E e=>by have:=szs.1.1;rw[show(staOf M).el=some E from e]at this;exact this) hm6 ⟨f10,f11⟩ (by omega) (by omega) fun H7 R7 K7=>?_
   walk_at "W";refine iteF ?_;walk_at "W";exact⟨_,_,_,rfl,K7 _ _ nqp q6⟩
 rintro σ H2 ⟨v1,v2,v3,rfl,hq2⟩;walk_at "W";exact k _
theorem all_mk{l:W.OpenLaw}{w:World}{K:W.Frag}{h:Heap}{mg:Str->Option Value}{fa:Addr}(X:K.In h)(G:h.Ns mainGlobals mg)(hfa:mg "law"=some (.ref fa))
 {C_Shelf:Addr}
 {C_Table:Addr}
 {f0:Addr}{g0:FuncData}
 {f1:Addr}{g1:FuncData}
 {f2:Addr}{g2:FuncData}
 {f3:Addr}{g3:FuncData}
 {f4:Addr}{g4:FuncData}
 {f5:Addr}{g5:FuncData}
 {f6:Addr}{g6:FuncData}
 {f7:Addr}{g7:FuncData}
 {f8:Addr}{g8:FuncData}
 {f9:Addr}{g9:FuncData}
 {f10:Addr}{g10:FuncData}
 {f11:Addr}{g11:FuncData}
 {f12:Addr}{g12:FuncData}
 {f13:Addr}{g13:FuncData}
 {f14:Addr}{g14:FuncData}
 {f15:Addr}{g15:FuncData}
 {f16:Addr}{g16:FuncData}
 {f17:Addr}{g17:FuncData}
 {f18:Addr}{g18:FuncData}
 {f19:Addr}{g19:FuncData}
 {f20:Addr}{g20:FuncData}
 {f21:Addr}{g21:FuncData}
 {f22:Addr}{g22:FuncData}
 {f23:Addr}{g23:FuncData}
 {f24:Addr}{g24:FuncData}
 {f25:Addr}{g25:FuncData}
 {f26:Addr}{g26:FuncData}
 {f27:Addr}{g27:FuncData}
 {f28:Addr}{g28:FuncData}
 {f29:Addr}{g29:FuncData}
 {f30:Addr}{g30:FuncData}
 {f31:Addr}{g31:FuncData}
 {f32:Addr}{g32:FuncData}
 {f33:Addr}{g33:FuncData}
 {f34:Addr}{g34:FuncData}
 {f35:Addr}{g35:FuncData}
 {f36:Addr}{g36:FuncData}
 {f37:Addr}{g37:FuncData}
 {f38:Addr}{g38:FuncData}
 {f39:Addr}{g39:FuncData}
 {f40:Addr}{g40:FuncData}
 {f41:Addr}{g41:FuncData}
 {f42:Addr}{g42:FuncData}
 {f43:Addr}{g43:FuncData}
 {f44:Addr}{g44:FuncData}
 {f45:Addr}{g45:FuncData}
 {f46:Addr}{g46:FuncData}
 {f47:Addr}{g47:FuncData}
 {f48:Addr}{g48:FuncData}
 {f49:Addr}{g49:FuncData}
 {f50:Addr}{g50:FuncData}
 {tk0:Tok}
 {tk1:Tok}
 {tA_SIZES:Addr}{tD_SIZES:Option Addr}{tN_SIZES:Nat}{tS_SIZES:Array (Option Value)}{tT_SIZES_0 tT_SIZES_1 tT_SIZES_2 tT_SIZES_3 tT_SIZES_4 tT_SIZES_5 tT_SIZES_6 tT_SIZES_7 tT_SIZES_8 tT_SIZES_9 tT_SIZES_10:Tok}
 {eA_ eB_ eC0 eC1 eC2 eC3:Addr}{eD0 eD1 eD2 eD3 eD4 eD5:Option Addr}{eN0 eN1 eN2 eN3 eN4 eN5:Nat}{eS0 eS1 eS2 eS3 eS4 eS5:Array (Option Value)}{eT_:Tok}
 (q_Shelf:W.nsIn K mainGlobals "Shelf"=some (some (.ref C_Shelf)))
 (pg_Shelf:W.plainGet K C_Shelf Str.empty=true)
 (hd_Shelf:W.hasDictIn K C_Shelf=true)
 (po_Shelf:W.plainOver K C_Shelf=true)
 (sa_Shelf:W.findIn K (.ref C_Shelf) "__setattr__"=some (some (.builtin "object.__setattr__")))
 (mk_Shelf:W.makesIn K C_Shelf=true)
 (kc_Shelf:W.keepIn K (.ref C_Shelf)=true)
 (na_Shelf_mixer:W.findIn K (.ref C_Shelf) "mixer"=some none)
 (na_Shelf_rows:W.findIn K (.ref C_Shelf) "rows"=some none)
 (na_Shelf_held:W.findIn K (.ref C_Shelf) "held"=some none)
 (q_Table:W.nsIn K mainGlobals "Table"=some (some (.ref C_Table)))
 (pg_Table:W.plainGet K C_Table Str.empty=true)
 (hd_Table:W.hasDictIn K C_Table=true)
 (po_Table:W.plainOver K C_Table=true)
 (sa_Table:W.findIn K (.ref C_Table) "__setattr__"=some (some (.builtin "object.__setattr__")))
 (mk_Table:W.makesIn K C_Table=true)
 (kc_Table:W.keepIn K (.ref C_Table)=true)
 (na_Table_mixer:W.findIn K (.ref C_Table) "mixer"=some none)
 (na_Table_pace:W.findIn K (.ref C_Table) "pace"=some none)
 (na_Table_elder:W.findIn K (.ref C_Table) "elder"=some none)
 (na_Table_moved:W.findIn K (.ref C_Table) "moved"=some none)
 (na_Table_newer:W.findIn K (.ref C_Table) "newer"=some none)
 (na_Table_touches:W.findIn K (.ref C_Table) "touches"=some none)
 (a0:W.nsIn K mainGlobals "is_whole"=some (some (.ref f0)))
 (u0:Fun K "is_whole" "is_whole" z39_ f0 g0)
 (a1:W.nsIn K mainGlobals "is_size"=some (some (.ref f1)))
 (u1:Fun K "is_size" "is_size" z36_ f1 g1)
 (a2:W.nsIn K mainGlobals "is_key"=some (some (.ref f2)))
 (u2:Fun K "is_key" "is_key" z33_ f2 g2)
 (a3:W.nsIn K mainGlobals "is_worth"=some (some (.ref f3)))
 (u3:Fun K "is_worth" "is_worth" z40_ f3 g3)
 (a4:W.nsIn K mainGlobals "mark_of"=some (some (.ref f4)))
 (u4:Fun K "mark_of" "mark_of" z53_ f4 g4)
 (a5:W.nsIn K mainGlobals "place_of"=some (some (.ref f5)))
 (u5:Fun K "place_of" "place_of" z54_ f5 g5)
 (a6:W.findIn K (.ref C_Shelf) "__init__"=some (some (.ref f6)))
 (i6:W.isFn K (.ref f6)=true)
 (u6:Fun K "__init__" "Shelf.__init__" z0_ f6 g6)
 (a7:W.findIn K (.ref C_Shelf) "place_with"=some (some (.ref f7)))
 (i7:W.isFn K (.ref f7)=true)
 (u7:Fun K "place_with" "Shelf.place_with" z6_ f7 g7)
 (a8:W.findIn K (.ref C_Shelf) "row_with"=some (some (.ref f8)))
 (i8:W.isFn K (.ref f8)=true)
 (u8:Fun K "row_with" "Shelf.row_with" z9_ f8 g8)
 (a9:W.findIn K (.ref C_Shelf) "put"=some (some (.ref f9)))
 (i9:W.isFn K (.ref f9)=true)
 (u9:Fun K "put" "Shelf.put" z7_ f9 g9)
 (a10:W.findIn K (.ref C_Shelf) "look"=some (some (.ref f10)))
 (i10:W.isFn K (.ref f10)=true)
 (u10:Fun K "look" "Shelf.look" z4_ f10 g10)
 (a11:W.findIn K (.ref C_Shelf) "size"=some (some (.ref f11)))
 (i11:W.isFn K (.ref f11)=true)
 (u11:Fun K "size" "Shelf.size" z10_ f11 g11)
 (a12:W.findIn K (.ref C_Shelf) "many"=some (some (.ref f12)))
 (i12:W.isFn K (.ref f12)=true)
 (u12:Fun K "many" "Shelf.many" z5_ f12 g12)
 (a13:W.findIn K (.ref C_Shelf) "check_place"=some (some (.ref f13)))
 (i13:W.isFn K (.ref f13)=true)
 (u13:Fun K "check_place" "Shelf.check_place" z1_ f13 g13)
 (a14:W.findIn K (.ref C_Shelf) "row"=some (some (.ref f14)))
 (i14:W.isFn K (.ref f14)=true)
 (u14:Fun K "row" "Shelf.row" z8_ f14 g14)
 (a15:W.findIn K (.ref C_Shelf) "empty"=some (some (.ref f15)))
 (i15:W.isFn K (.ref f15)=true)
 (u15:Fun K "empty" "Shelf.empty" z3_ f15 g15)
 (a16:W.nsIn K mainGlobals "shelf_of"=some (some (.ref f16)))
 (u16:Fun K "shelf_of" "shelf_of" z56_ f16 g16)
 (a17:W.findIn K (.ref C_Table) "__init__"=some (some (.ref f17)))
 (i17:W.isFn K (.ref f17)=true)
 (u17:Fun K "__init__" "Table.__init__" z11_ f17 g17)
 (a18:W.findIn K (.ref C_Table) "due_places"=some (some (.ref f18)))
 (i18:W.isFn K (.ref f18)=true)
 (u18:Fun K "due_places" "Table.due_places" z14_ f18 g18)
 (a19:W.findIn K (.ref C_Table) "end_move"=some (some (.ref f19)))
 (i19:W.isFn K (.ref f19)=true)
 (u19:Fun K "end_move" "Table.end_move" z15_ f19 g19)
 (a20:W.findIn K (.ref C_Table) "stands_on_elder"=some (some (.ref f20)))
 (i20:W.isFn K (.ref f20)=true)
 (u20:Fun K "stands_on_elder" "Table.stands_on_elder" z24_ f20 g20)
 (a21:W.findIn K (.ref C_Table) "shelf_with"=some (some (.ref f21)))
 (i21:W.isFn K (.ref f21)=true)
 (u21:Fun K "shelf_with" "Table.shelf_with" z21_ f21 g21)
 (a22:W.findIn K (.ref C_Table) "wanted_size"=some (some (.ref f22)))
 (i22:W.isFn K (.ref f22)=true)
 (u22:Fun K "wanted_size" "Table.wanted_size" z27_ f22 g22)
 (a23:W.findIn K (.ref C_Table) "begin_move"=some (some (.ref f23)))
 (i23:W.isFn K (.ref f23)=true)
 (u23:Fun K "begin_move" "Table.begin_move" z12_ f23 g23)
 (a24:W.findIn K (.ref C_Table) "move_place"=some (some (.ref f24)))
 (i24:W.isFn K (.ref f24)=true)
 (u24:Fun K "move_place" "Table.move_place" z19_ f24 g24)
 (a25:W.findIn K (.ref C_Table) "go_on"=some (some (.ref f25)))
 (i25:W.isFn K (.ref f25)=true)
 (u25:Fun K "go_on" "Table.go_on" z16_ f25 g25)
 (a26:W.findIn K (.ref C_Table) "look"=some (some (.ref f26)))
 (i26:W.isFn K (.ref f26)=true)
 (u26:Fun K "look" "Table.look" z17_ f26 g26)
 (a27:W.nsIn K mainGlobals "rows_of"=some (some (.ref f27)))
 (u27:Fun K "rows_of" "rows_of" z55_ f27 g27)
 (a28:W.findIn K (.ref C_Table) "state"=some (some (.ref f28)))
 (i28:W.isFn K (.ref f28)=true)
 (u28:Fun K "state" "Table.state" z25_ f28 g28)
 (a29:W.findIn K (.ref C_Table) "touched"=some (some (.ref f29)))
 (i29:W.isFn K (.ref f29)=true)
 (u29:Fun K "touched" "Table.touched" z26_ f29 g29)
 (a30:W.nsIn K mainGlobals "has_right_places"=some (some (.ref f30)))
 (u30:Fun K "has_right_places" "has_right_places" z32_ f30 g30)
 (a31:W.nsIn K mainGlobals "has_right_moved"=some (some (.ref f31)))
 (u31:Fun K "has_right_moved" "has_right_moved" z31_ f31 g31)
 (a32:W.nsIn K mainGlobals "keys_in_turn"=some (some (.ref f32)))
 (u32:Fun K "keys_in_turn" "keys_in_turn" z41_ f32 g32)
 (a33:W.nsIn K mainGlobals "first_fault_of_pairs"=some (some (.ref f33)))
 (u33:Fun K "first_fault_of_pairs" "first_fault_of_pairs" z30_ f33 g33)
 (a34:W.nsIn K mainGlobals "first_fault"=some (some (.ref f34)))
 (u34:Fun K "first_fault" "first_fault" z29_ f34 g34)
 (a35:W.nsIn K mainGlobals "is_pair"=some (some (.ref f35)))
 (u35:Fun K "is_pair" "is_pair" z34_ f35 g35)
 (a36:W.nsIn K mainGlobals "is_row"=some (some (.ref f36)))
 (u36:Fun K "is_row" "is_row" z35_ f36 g36)
 (a37:W.nsIn K mainGlobals "are_rows"=some (some (.ref f37)))
 (u37:Fun K "are_rows" "are_rows" z28_ f37 g37)
 (a38:W.nsIn K mainGlobals "is_state"=some (some (.ref f38)))
 (u38:Fun K "is_state" "is_state" z38_ f38 g38)
 (a39:W.nsIn K mainGlobals "is_sound"=some (some (.ref f39)))
 (u39:Fun K "is_sound" "is_sound" z37_ f39 g39)
 (a40:W.nsIn K mainGlobals "_law_stream"=some (some (.ref f40)))
 (u40:Fun K "_law_stream" "_law_stream" z49_ f40 g40)
 (a41:W.nsIn K mainGlobals "_law_take"=some (some (.ref f41)))
 (u41:Fun K "_law_take" "_law_take" z51_ f41 g41)
 (a42:W.nsIn K mainGlobals "_law_mixer"=some (some (.ref f42)))
 (u42:Fun K "_law_mixer" "_law_mixer" z44_ f42 g42)
 (a43:W.nsIn K mainGlobals "_law_key"=some (some (.ref f43)))
 (u43:Fun K "_law_key" "_law_key" z43_ f43 g43)
 (a44:W.nsIn K mainGlobals "_law_worth"=some (some (.ref f44)))
 (u44:Fun K "_law_worth" "_law_worth" z52_ f44 g44)
 (a45:W.nsIn K mainGlobals "table_of"=some (some (.ref f45)))
 (u45:Fun K "table_of" "table_of" z57_ f45 g45)
 (a46:W.nsIn K mainGlobals "_law_table_state"=some (some (.ref f46)))
 (u46:Fun K "_law_table_state" "_law_table_state" z50_ f46 g46)
 (a47:W.nsIn K mainGlobals "_law_pairs"=some (some (.ref f47)))
 (u47:Fun K "_law_pairs" "_law_pairs" z46_ f47 g47)
 (a48:W.nsIn K mainGlobals "_law_settled"=some (some (.ref f48)))
 (u48:Fun K "_law_settled" "_law_settled" z48_ f48 g48)
 (a49:W.nsIn K mainGlobals "_law_right"=some (some (.ref f49)))
 (u49:Fun K "_law_right" "_law_right" z47_ f49 g49)
 (a50:W.nsIn K mainGlobals "law"=some (some (.ref f50)))
 (u50:Fun K "law" "law" z42_ f50 g50)
 (cst0:W.nsIn K mainGlobals "MARKS"=some (some (.int 65536 tk0)))
 (cst1:W.nsIn K mainGlobals "GREATEST"=some (some (.int 1000000000 tk1)))
 (ta_SIZES:W.nsIn K mainGlobals "SIZES"=some (some (.ref tA_SIZES)))
 (tl_SIZES:K.lookup tA_SIZES=some ⟨.type "tuple",tD_SIZES,.seq #[.int 4 tT_SIZES_0,.int 8 tT_SIZES_1,.int 16 tT_SIZES_2,.int 32 tT_SIZES_3,.int 64 tT_SIZES_4,.int 128 tT_SIZES_5,.int 256 tT_SIZES_6,.int 512 tT_SIZES_7,.int 1024 tT_SIZES_8,.int 2048 tT_SIZES_9,.int 4096 tT_SIZES_10] tN_SIZES,tS_SIZES⟩)
 (ea_:W.nsIn K mainGlobals "EMPTY"=some (some (.ref eA_)))
 (eb_:K.lookup eA_=some ⟨.type "tuple",eD0,.seq #[.none,.int 0 eT_,.ref eB_] eN0,eS0⟩)
 (ec_:K.lookup eB_=some ⟨.type "tuple",eD1,.seq #[.ref eC0,.ref eC1,.ref eC2,.ref eC3] eN1,eS1⟩)
 (ed0:K.lookup eC0=some ⟨.type "tuple",eD2,.seq #[] eN2,eS2⟩)
 (ed1:K.lookup eC1=some ⟨.type "tuple",eD3,.seq #[] eN3,eS3⟩)
 (ed2:K.lookup eC2=some ⟨.type "tuple",eD4,.seq #[] eN4,eS4⟩)
 (ed3:K.lookup eC3=some ⟨.type "tuple",eD5,.seq #[] eN5,eS5⟩)
 (blt0:W.nsIn K mainGlobals "int"=some none)
 (blt1:W.nsIn K mainGlobals "bool"=some none)
 (blt2:W.nsIn K mainGlobals "isinstance"=some none)
 (blt3:W.nsIn K mainGlobals "range"=some none)
 (blt4:W.nsIn K mainGlobals "len"=some none)
 (blt5:W.nsIn K mainGlobals "list"=some none)
 (blt6:W.nsIn K mainGlobals "tuple"=some none)
 (blt7:W.nsIn K mainGlobals "sum"=some none)
 (blt8:W.nsIn K mainGlobals "min"=some none)
 (blt9:W.nsIn K mainGlobals "max"=some none)
 (blt10:W.nsIn K mainGlobals "set"=some none)
 (blt11:W.nsIn K mainGlobals "enumerate"=some none)
 (blt12:W.nsIn K mainGlobals "all"=some none)
 (blt13:W.nsIn K mainGlobals "dict"=some none)
 (blt14:W.nsIn K mainGlobals "sorted"=some none) :
 ∃ fd:FuncData,(∀(s:Shared) (v:Value),BindsTo s fd ⟨[v],[]⟩ [("script",v)]) /\ ∀ base:Heap,K.In base->base.Ns mainGlobals mg->FnOk l.prog w K mg base CX0 10 fa fd ["script"] (spLaw K):=by
 have e:=hfa.symm.trans (W.mg_of X G a50);cases e;have g:Gs K mg C_Shelf C_Table:=⟨⟨_,W.mg_of X G cst0⟩,⟨_,W.mg_of X G cst1⟩,⟨_,W.mg_of X G ta_SIZES,fun H=>.inr ⟨_,_,_,tl_SIZES,rfl,rfl,by show(11:Nat)<=sizeLine;decide,.cons ⟨_,rfl⟩ (.cons ⟨_,rfl⟩ (.cons ⟨_,rfl⟩ (.cons ⟨_,rfl⟩ (.cons ⟨_,rfl⟩ (.cons ⟨_,rfl⟩ (.cons ⟨_,rfl⟩ (.cons ⟨_,rfl⟩ (.cons ⟨_,rfl⟩ (.cons ⟨_,rfl⟩ (.cons ⟨_,rfl⟩ (.nil)))))))))))⟩⟩,⟨_,_,W.mg_of X G ea_,fun H=>.inr ⟨_,_,_,eb_,rfl,rfl,by show(3:Nat)<=sizeLine;decide,.cons rfl (.cons ⟨_,rfl⟩ (.cons rfl .nil))⟩,fun H=>⟨[.ref _,.ref _,.ref _,.ref _],.inr ⟨_,_,_,ec_,rfl,rfl,by show(4:Nat)<=sizeLine;decide,.cons rfl (.cons rfl (.cons rfl (.cons rfl .nil)))⟩,.cons ⟨_,[],rfl,.inr ⟨_,_,_,ed0,rfl,rfl,by show(0:Nat)<=sizeLine;decide,.nil⟩,.nil⟩ (.cons ⟨_,[],rfl,.inr ⟨_,_,_,ed1,rfl,rfl,by show(0:Nat)<=sizeLine;decide,.nil⟩,.nil⟩ (.cons ⟨_,[],rfl,.inr ⟨_,_,_,ed2,rfl,rfl,by show(0:Nat)<=sizeLine;decide,.nil⟩,.nil⟩ (.cons ⟨_,[],rfl,.inr ⟨_,_,_,ed3,rfl,rfl,by show(0:Nat)<=sizeLine;decide,.nil⟩,.nil⟩ .nil)))⟩⟩,⟨pg_Shelf,hd_Shelf,po_Shelf,sa_Shelf⟩,na_Shelf_mixer,na_Shelf_rows,na_Shelf_held,⟨pg_Table,hd_Table,po_Table,sa_Table⟩,na_Table_mixer,na_Table_pace,na_Table_elder,na_Table_moved,na_Table_newer,na_Table_touches,W.mg_none_of X G blt0,W.mg_none_of X G blt1,W.mg_none_of X G blt2,W.mg_none_of X G blt3,W.mg_none_of X G blt4,W.mg_none_of X G blt5,W.mg_none_of X G blt6,W.mg_none_of X G blt7,W.mg_none_of X G blt8,W.mg_none_of X G blt9,W.mg_none_of X G blt10,W.mg_none_of X G blt11,W.mg_none_of X G blt12,W.mg_none_of X G blt13,W.mg_none_of X G blt14⟩
 have FL:=u50;obtain⟨oc,od,kV,dc,pm,an,cd,ct,sl,rfl,_,_⟩:=id FL.ex;refine⟨W.fnOf "law" "law" (defArgs z42_) (defBody z42_) (defScope z42_) .none kV dc pm an cd ct,fun s v=>.of_eq rfl,fun base _ _=>?_⟩;have T0:=q52_ (P:=l.prog) (w:=w) (base:=base) ⟨_,_,u0,W.mg_of X G a0,SW.bd1 u0⟩ g;have T1:=q43_ (P:=l.prog) (w:=w) (base:=base) ⟨_,_,u1,W.mg_of X G a1,SW.bd1 u1⟩ g T0;have T2:=q15_ (P:=l.prog) (w:=w) (base:=base) ⟨_,_,u2,W.mg_of X G a2,SW.bd1 u2⟩ g T0;have T3:=q54_ (P:=l.prog) (w:=w) (base:=base) ⟨_,_,u3,W.mg_of X G a3,SW.bd1 u3⟩ g T0;have T4:=q27_ (P:=l.prog) (w:=w) (base:=base) ⟨_,_,u4,W.mg_of X G a4,SW.bd2 u4⟩ g;have T5:=q34_ (P:=l.prog) (w:=w) (base:=base) ⟨_,_,u5,W.mg_of X G a5,SW.bd2 u5⟩;have T6:=q81_ (P:=l.prog) (w:=w) (base:=base) ⟨_,_,u6,⟨mk_Shelf,a6,i6,kc_Shelf⟩,W.mg_of X G q_Shelf,SW.bd3 u6⟩ g T1;have T7:=q84_ (P:=l.prog) (w:=w) (base:=base) ⟨_,_,u7,⟨a7,i7,u7.kp⟩,SW.bd2 u7⟩ g T4 T5;have T8:=q87_ (P:=l.prog) (w:=w) (base:=base) ⟨_,_,u8,⟨a8,i8,u8.kp⟩,SW.bd2 u8⟩ g T7;have T9:=q85_ (P:=l.prog) (w:=w) (base:=base) ⟨_,_,u9,⟨a9,i9,u9.kp⟩,SW.bd3 u9⟩ g T8;have T10:=q82_ (P:=l.prog) (w:=w) (base:=base) ⟨_,_,u10,⟨a10,i10,u10.kp⟩,SW.bd2 u10⟩ T8 g;have T11:=q88_ (P:=l.prog) (w:=w) (base:=base) ⟨_,_,u11,⟨a11,i11,u11.kp⟩,SW.bd1 u11⟩ g;have T12:=q83_ (P:=l.prog) (w:=w) (base:=base) ⟨_,_,u12,⟨a12,i12,u12.kp⟩,SW.bd1 u12⟩ g;have T13:=q78_ (P:=l.prog) (w:=w) (base:=base) ⟨_,_,u13,⟨a13,i13,u13.kp⟩,SW.bd2 u13⟩ g T0;have T14:=q86_ (P:=l.prog) (w:=w) (base:=base) ⟨_,_,u14,⟨a14,i14,u14.kp⟩,SW.bd2 u14⟩ g T13;have T15:=q79_ (P:=l.prog) (w:=w) (base:=base) ⟨_,_,u15,⟨a15,i15,u15.kp⟩,SW.bd2 u15⟩ g T14;have T16:=q42_ (P:=l.prog) (w:=w) (base:=base) ⟨_,_,u16,W.mg_of X G a16,SW.bd2 u16⟩ g T6 T9;have T17:=q92_ (P:=l.prog) (w:=w) (base:=base) ⟨_,_,u17,⟨mk_Table,a17,i17,kc_Table⟩,W.mg_of X G q_Table,SW.bd4 u17⟩ g T16;have T18:=q90_ (P:=l.prog) (w:=w) (base:=base) ⟨_,_,u18,⟨a18,i18,u18.kp⟩,SW.bd1 u18⟩ g T11;have T19:=q91_ (P:=l.prog) (w:=w) (base:=base) ⟨_,_,u19,⟨a19,i19,u19.kp⟩,SW.bd1 u19⟩ g T11;have T20:=q95_ (P:=l.prog) (w:=w) (base:=base) ⟨_,_,u20,⟨a20,i20,u20.kp⟩,SW.bd2 u20⟩ g T7;have T21:=q99_ (P:=l.prog) (w:=w) (base:=base) ⟨_,_,u21,⟨a21,i21,u21.kp⟩,SW.bd2 u21⟩ g T10;have T22:=q98_ (P:=l.prog) (w:=w) (base:=base) ⟨_,_,u22,⟨a22,i22,u22.kp⟩,SW.bd1 u22⟩ g T11 T12;have T23:=q89_ (P:=l.prog) (w:=w) (base:=base) ⟨_,_,u23,⟨a23,i23,u23.kp⟩,SW.bd1 u23⟩ g T22 T11 T6;have T24:=q94_ (P:=l.prog) (w:=w) (base:=base) ⟨_,_,u24,⟨a24,i24,u24.kp⟩,SW.bd2 u24⟩ g T15 T9 T7;have T25:=T_go (P:=l.prog) (w:=w) (base:=base) ⟨_,_,u25,⟨a25,i25,u25.kp⟩,SW.bd2 u25⟩ g T18 T24 T19 T20 T7;have T26:=q93_ (P:=l.prog) (w:=w) (base:=base) ⟨_,_,u26,⟨a26,i26,u26.kp⟩,SW.bd2 u26⟩ g T25 T21 T23 T10;have T27:=q40_ (P:=l.prog) (w:=w) (base:=base) ⟨_,_,u27,W.mg_of X G a27,SW.bd1 u27⟩ g T11 T14;have T28:=q96_ (P:=l.prog) (w:=w) (base:=base) ⟨_,_,u28,⟨a28,i28,u28.kp⟩,SW.bd1 u28⟩ g T27;have T29:=q97_ (P:=l.prog) (w:=w) (base:=base) ⟨_,_,u29,⟨a29,i29,u29.kp⟩,SW.bd1 u29⟩ g;have T30:=q36_ (P:=l.prog) (w:=w) (base:=base) ⟨_,_,u30,W.mg_of X G a30,SW.bd2 u30⟩ g T1;have T31:=q30_ (P:=l.prog) (w:=w) (base:=base) ⟨_,_,u31,W.mg_of X G a31,SW.bd2 u31⟩ g;have T32:=q16_ (P:=l.prog) (w:=w) (base:=base) ⟨_,_,u32,W.mg_of X G a32,SW.bd1 u32⟩ g;have T33:=q33_ (P:=l.prog) (w:=w) (base:=base) ⟨_,_,u33,W.mg_of X G a33,SW.bd2 u33⟩ g T5 T4 T32;have T34:=q1_ (P:=l.prog) (w:=w) (base:=base) ⟨_,_,u34,W.mg_of X G a34,SW.bd2 u34⟩ g T30 T31 T33;have T35:=q31_ (P:=l.prog) (w:=w) (base:=base) ⟨_,_,u35,W.mg_of X G a35,SW.bd1 u35⟩ g T2 T3;have T36:=q38_ (P:=l.prog) (w:=w) (base:=base) ⟨_,_,u36,W.mg_of X G a36,SW.bd1 u36⟩ g T35;have T37:=q39_ (P:=l.prog) (w:=w) (base:=base) ⟨_,_,u37,W.mg_of X G a37,SW.bd1 u37⟩ g T36;have T38:=q46_ (P:=l.prog) (w:=w) (base:=base) ⟨_,_,u38,W.mg_of X G a38,SW.bd1 u38⟩ g T0 T37;have T39:=q45_ (P:=l.prog) (w:=w) (base:=base) ⟨_,_,u39,W.mg_of X G a39,SW.bd2 u39⟩ g T38 T34;have T40:=q47_ (P:=l.prog) (w:=w) (base:=base) ⟨_,_,u40,W.mg_of X G a40,SW.bd1 u40⟩ g;have T41:=q51_ (P:=l.prog) (w:=w) (base:=base) ⟨_,_,u41,W.mg_of X G a41,SW.bd2 u41⟩;have T42:=q29_ (P:=l.prog) (w:=w) (base:=base) ⟨_,_,u42,W.mg_of X G a42,SW.bd1 u42⟩ T41;have T43:=q14_ (P:=l.prog) (w:=w) (base:=base) ⟨_,_,u43,W.mg_of X G a43,SW.bd1 u43⟩ T41;have T44:=q53_ (P:=l.prog) (w:=w) (base:=base) ⟨_,_,u44,W.mg_of X G a44,SW.bd1 u44⟩ T41;have T45:=q49_ (P:=l.prog) (w:=w) (base:=base) ⟨_,_,u45,W.mg_of X G a45,SW.bd3 u45⟩ g T39 T17;have T46:=q48_ (P:=l.prog) (w:=w) (base:=base) ⟨_,_,u46,W.mg_of X G a46,SW.bd2 u46⟩ g T41 T43 T44;have T47:=q32_ (P:=l.prog) (w:=w) (base:=base) ⟨_,_,u47,W.mg_of X G a47,SW.bd1 u47⟩ g;have T48:=q41_ (P:=l.prog) (w:=w) (base:=base) ⟨_,_,u48,W.mg_of X G a48,SW.bd2 u48⟩ g;have T49:=q37_ (P:=l.prog) (w:=w) (base:=base) ⟨_,_,u49,W.mg_of X G a49,SW.bd4 u49⟩ g T39 T45 T26 T28 T29 T43 T47 T48;exact ok_law FL g T40 T41 T42 T46 T49
theorem walk{l:W.OpenLaw}{q:Program}{loose:List Str}{XP:(Str->Option Value)->Heap->Prop}{YP:World->Heap->Prop}{d:DefRec}{K:Params->W.Frag}(hn:l.most=some 63)(hdf:d.params.defaults=[])
 (hY:∀(w:World) (h:Heap),YP w h->(K w.params).In h)
 (F:∀(w:World) (mg:Str->Option Value) (fa:Addr) (h:Heap),(K w.params).In h->h.Ns mainGlobals mg->mg d.name=some (.ref fa) ->
  ∃ fd:FuncData,(∀(s:Shared) (u:Value),BindsTo s fd ⟨[u],[]⟩ [("script",u)]) /\ ∀ base:Heap,(K w.params).In base->base.Ns mainGlobals mg->FnOk l.prog w (K w.params) mg base CX0 10 fa fd ["script"] (spLaw (K w.params))) :
 W.WalkO q loose XP YP l.row.toRowW d [] (fun f vs=>PySem.call f vs):=
 L2.walk_of (n:=63) (k:=10) (x:="script") (CX:=fun _=>CX0) (sp:=fun w=>spLaw (K w.params)) hn (by decide) hdf ⟨rfl,by decide,by decide⟩ hY F (fun _ _ a ns hl _ hS=>⟨a,ns,rfl,hS,hl,fun _=>rfl⟩) fun _ _ _ _ _ z=>z
end
end
end K
noncomputable def PySem.W.Fast.tw5828707986683854655:Nat:=0
noncomputable def PySem.W.Fast.tw17907237210830608729:Nat:=0
noncomputable def PySem.W.Fast.tw3039810672748888717:Nat:=0
noncomputable def PySem.W.Fast.tw9172371040605924763:Nat:=0
noncomputable def PySem.W.Fast.tw8646610418037448342:Nat:=0
noncomputable def PySem.W.Fast.tw823821489043670509:Nat:=0
noncomputable def PySem.W.Fast.tw2631696472687139846:Nat:=0
noncomputable def PySem.W.Fast.tw4287930060934089836:Nat:=0
noncomputable def PySem.W.Fast.tw6286285292523334606:Nat:=0
noncomputable def PySem.W.Fast.tw5117063394737662635:Nat:=0
noncomputable def PySem.W.Fast.tw16989933067848936363:Nat:=0
noncomputable def PySem.W.Fast.tw6088828378836015168:Nat:=0
noncomputable def PySem.W.Fast.tw10367563330410680269:Nat:=0
noncomputable def PySem.W.Fast.tw1568288242040540129:Nat:=0
noncomputable def PySem.W.Fast.tw3421825439493128818:Nat:=0
noncomputable def PySem.W.Fast.tw2048368430537718189:Nat:=0
noncomputable def PySem.W.Fast.tw1689964155788988732:Nat:=0
noncomputable def PySem.W.Fast.tw16580088940535051137:Nat:=0
noncomputable def PySem.W.Fast.tw11904362765712084982:Nat:=0
noncomputable def PySem.W.Fast.tw15771935854799778994:Nat:=0
noncomputable def PySem.W.Fast.tw12132226267248200322:Nat:=0
open PySem PySem.W PyProof.Rows L2
local macro_rules | `(tactic| walk_at "F")=>`(tactic| (refine' L2.fun_mk ?l ?c ?k;(case l=>k_is);(case c=>k_is);(case k=>k_is)))
set_option maxRecDepth 100000 in
set_option maxHeartbeats 0 in
theorem PySem.Challenge.cw_slowshift_k42_whole_states_of_any_sort_s_holds : PySem.Challenge.rw_slowshift_k42_whole_states_of_any_sort_s.Holds := by
 w_on;o_law;z_head;(case hw=>w_witness2)
 k_fill
 refine SW.walkX (fun _=>by kernel_rfl) (K.walk (l:=PySem.Challenge.rw_slowshift_k42_whole_states_of_any_sort_s) rfl rfl (fun w h Y=>Y) ?F)
 case F=>
  intro w mg fa h KX G hmg
  refine' K.all_mk KX G hmg ?q_Shelf ?pg_Shelf ?hd_Shelf ?po_Shelf ?sa_Shelf ?mk_Shelf ?kc_Shelf ?na_Shelf_mixer ?na_Shelf_rows ?na_Shelf_held ?q_Table ?pg_Table ?hd_Table ?po_Table ?sa_Table ?mk_Table ?kc_Table ?na_Table_mixer ?na_Table_pace ?na_Table_elder ?na_Table_moved ?na_Table_newer ?na_Table_touches ?a0 ?u0 ?a1 ?u1 ?a2 ?u2 ?a3 ?u3 ?a4 ?u4 ?a5 ?u5 ?a6 ?i6 ?u6 ?a7 ?i7 ?u7 ?a8 ?i8 ?u8 ?a9 ?i9 ?u9 ?a10 ?i10 ?u10 ?a11 ?i11 ?u11 ?a12 ?i12 ?u12 ?a13 ?i13 ?u13 ?a14 ?i14 ?u14 ?a15 ?i15 ?u15 ?a16 ?u16 ?a17 ?i17 ?u17 ?a18 ?i18 ?u18 ?a19 ?i19 ?u19 ?a20 ?i20 ?u20 ?a21 ?i21 ?u21 ?a22 ?i22 ?u22 ?a23 ?i23 ?u23 ?a24 ?i24 ?u24 ?a25 ?i25 ?u25 ?a26 ?i26 ?u26 ?a27 ?u27 ?a28 ?i28 ?u28 ?a29 ?i29 ?u29 ?a30 ?u30 ?a31 ?u31 ?a32 ?u32 ?a33 ?u33 ?a34 ?u34 ?a35 ?u35 ?a36 ?u36 ?a37 ?u37 ?a38 ?u38 ?a39 ?u39 ?a40 ?u40 ?a41 ?u41 ?a42 ?u42 ?a43 ?u43 ?a44 ?u44 ?a45 ?u45 ?a46 ?u46 ?a47 ?u47 ?a48 ?u48 ?a49 ?u49 ?a50 ?u50 ?cst0 ?cst1 ?ta_SIZES ?tl_SIZES ?ea_ ?eb_ ?ec_ ?ed0 ?ed1 ?ed2 ?ed3 ?blt0 ?blt1 ?blt2 ?blt3 ?blt4 ?blt5 ?blt6 ?blt7 ?blt8 ?blt9 ?blt10 ?blt11 ?blt12 ?blt13 ?blt14
  (case q_Shelf=>k_is)
  (case pg_Shelf=>k_is)
  (case hd_Shelf=>k_is)
  (case po_Shelf=>k_is)
  (case sa_Shelf=>k_is)
  (case mk_Shelf=>k_is)
  (case kc_Shelf=>k_is)
  (case na_Shelf_mixer=>k_is)
  (case na_Shelf_rows=>k_is)
  (case na_Shelf_held=>k_is)
  (case q_Table=>k_is)
  (case pg_Table=>k_is)
  (case hd_Table=>k_is)
  (case po_Table=>k_is)
  (case sa_Table=>k_is)
  (case mk_Table=>k_is)
  (case kc_Table=>k_is)
  (case na_Table_mixer=>k_is)
  (case na_Table_pace=>k_is)
  (case na_Table_elder=>k_is)
  (case na_Table_moved=>k_is)
  (case na_Table_newer=>k_is)
  (case na_Table_touches=>k_is)
  (case a0=>k_is)
  (case u0=>walk_at "F")
  (case a1=>k_is)
  (case u1=>walk_at "F")
  (case a2=>k_is)
  (case u2=>walk_at "F")
  (case a3=>k_is)
  (case u3=>walk_at "F")
  (case a4=>k_is)
  (case u4=>walk_at "F")
  (case a5=>k_is)
  (case u5=>walk_at "F")
  (case a6=>k_is)
  (case i6=>k_is)
  (case u6=>walk_at "F")
  (case a7=>k_is)
  (case i7=>k_is)
  (case u7=>walk_at "F")
  (case a8=>k_is)
  (case i8=>k_is)
  (case u8=>walk_at "F")
  (case a9=>k_is)
  (case i9=>k_is)
  (case u9=>walk_at "F")
  (case a10=>k_is)
  (case i10=>k_is)
  (case u10=>walk_at "F")
  (case a11=>k_is)
  (case i11=>k_is)
  (case u11=>walk_at "F")
  (case a12=>k_is)
  (case i12=>k_is)
  (case u12=>walk_at "F")
  (case a13=>k_is)
  (case i13=>k_is)
  (case u13=>walk_at "F")
  (case a14=>k_is)
  (case i14=>k_is)
  (case u14=>walk_at "F")
  (case a15=>k_is)
  (case i15=>k_is)
  (case u15=>walk_at "F")
  (case a16=>k_is)
  (case u16=>walk_at "F")
  (case a17=>k_is)
  (case i17=>k_is)
  (case u17=>walk_at "F")
  (case a18=>k_is)
  (case i18=>k_is)
  (case u18=>walk_at "F")
  (case a19=>k_is)
  (case i19=>k_is)
  (case u19=>walk_at "F")
  (case a20=>k_is)
  (case i20=>k_is)
  (case u20=>walk_at "F")
  (case a21=>k_is)
  (case i21=>k_is)
  (case u21=>walk_at "F")
  (case a22=>k_is)
  (case i22=>k_is)
  (case u22=>walk_at "F")
  (case a23=>k_is)
  (case i23=>k_is)
  (case u23=>walk_at "F")
  (case a24=>k_is)
  (case i24=>k_is)
  (case u24=>walk_at "F")
  (case a25=>k_is)
  (case i25=>k_is)
  (case u25=>walk_at "F")
  (case a26=>k_is)
  (case i26=>k_is)
  (case u26=>walk_at "F")
  (case a27=>k_is)
  (case u27=>walk_at "F")
  (case a28=>k_is)
  (case i28=>k_is)
  (case u28=>walk_at "F")
  (case a29=>k_is)
  (case i29=>k_is)
  (case u29=>walk_at "F")
  (case a30=>k_is)
  (case u30=>walk_at "F")
  (case a31=>k_is)
  (case u31=>walk_at "F")
  (case a32=>k_is)
  (case u32=>walk_at "F")
  (case a33=>k_is)
  (case u33=>walk_at "F")
  (case a34=>k_is)
  (case u34=>walk_at "F")
  (case a35=>k_is)
  (case u35=>walk_at "F")
  (case a36=>k_is)
  (case u36=>walk_at "F")
  (case a37=>k_is)
  (case u37=>walk_at "F")
  (case a38=>k_is)
  (case u38=>walk_at "F")
  (case a39=>k_is)
  (case u39=>walk_at "F")
  (case a40=>k_is)
  (case u40=>walk_at "F")
  (case a41=>k_is)
  (case u41=>walk_at "F")
  (case a42=>k_is)
  (case u42=>walk_at "F")
  (case a43=>k_is)
  (case u43=>walk_at "F")
  (case a44=>k_is)
  (case u44=>walk_at "F")
  (case a45=>k_is)
  (case u45=>walk_at "F")
  (case a46=>k_is)
  (case u46=>walk_at "F")
  (case a47=>k_is)
  (case u47=>walk_at "F")
  (case a48=>k_is)
  (case u48=>walk_at "F")
  (case a49=>k_is)
  (case u49=>walk_at "F")
  (case a50=>k_is)
  (case u50=>walk_at "F")
  (case cst0=>k_is)
  (case cst1=>k_is)
  (case ta_SIZES=>k_is)
  (case tl_SIZES=>k_is)
  (case ea_=>k_is)
  (case eb_=>k_is)
  (case ec_=>k_is)
  (case ed0=>k_is)
  (case ed1=>k_is)
  (case ed2=>k_is)
  (case ed3=>k_is)
  (case blt0=>k_is)
  (case blt1=>k_is)
  (case blt2=>k_is)
  (case blt3=>k_is)
  (case blt4=>k_is)
  (case blt5=>k_is)
  (case blt6=>k_is)
  (case blt7=>k_is)
  (case blt8=>k_is)
  (case blt9=>k_is)
  (case blt10=>k_is)
  (case blt11=>k_is)
  (case blt12=>k_is)
  (case blt13=>k_is)
  (case blt14=>k_is)

